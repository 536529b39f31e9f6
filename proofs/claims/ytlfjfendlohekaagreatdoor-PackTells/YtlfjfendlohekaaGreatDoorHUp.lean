/-
  The library's heap over package pack's heap of words: how one goes up, and how a heap is laid; in whatever memory.
-/
import Derived.Test.YtlfjfendlohekaaGreatDoorPackHeap
import Derived.Test.YtlfjfendlohekaaGreatDoorHDown
namespace Go.Proofs.YtlfjfendlohekaaGreatDoor
open Go.RowKit
theorem half_back (j:Nat):((j:Int) - 1).tdiv 2=(((j - 1) / 2:Nat):Int):=by
 by_cases h:j=0
 · subst h;decide
 · rw [Int.tdiv_eq_ediv_of_nonneg (by omega)];omega
theorem half_of (n:Nat):(n:Int).tdiv 2=((n / 2:Nat):Int):=by rw [Int.tdiv_eq_ediv_of_nonneg (by omega)];omega
set_option maxHeartbeats 8000000 in
set_option maxRecDepth 100000 in
theorem h_up (B g c n j:Nat) (d:Array Int) (hn:d.size=n) (w:World) (hB:w.cell? ⟨B,0,none⟩=some (.slice (some ⟨g,0,none⟩) n c)) (hne:B≠g) (hH:Sort.Holds (Value.int .u64) w g 0 d) (hg:g < w.heap.size) (hj:j < n) (hsz:n≤1000000) :
 Calls Tryz.prog 81 #[.iface 88 (.pointer (some ⟨B,0,none⟩)),.int .i64 j] w fun e w'=>e=.returned (.tuple #[])∧St w g 0 d (siftUp j d) w':=by
 have H0:Hid (Sort.Holds (Value.int .u64) w g 0 d):=hH
 have HN:Hid (d.size=n):=hn
 have HB:Hid _:=hB
 clear hH hn hB
 go_enter Tryz.func81,Tryz.ntmps81
 go_wp2_with fail
 go_loopw [1] (fun v1 wr=>∃ (k:Nat) (dk:Array Int),v1=.int .i64 k∧k < n∧Hid (St w g 0 d dk wr∧siftUp k dk=siftUp j d)) (fun v1 _=>(intOf v1).toNat)
 case atStart=>exact ⟨j,d,rfl,hj,St.refl H0.out,rfl⟩
 case round =>
  obtain ⟨k,dk,rfl,hk,hS⟩:=hrel
  have cB:=st_cell hS.out.1 HB.out hne
  have et:=half_back k
  obtain ⟨m,hm⟩:∃ m,(k - 1) / 2=m:=⟨_,rfl⟩
  rw [hm] at et
  by_cases h0:k=0
  · have e0:((m:Int) == (k:Int))=true:=by simp;omega
    have hmk:m≤k:=by omega
    have hmk2:(m:Int)≤1000000:=by omega
    have HR:Hid (St w g 0 d (siftUp j d) wr):=by
     refine hid_mk ?_
     rw [← hS.out.2,h0,siftUp_zero];exact hS.out.1
    clear hS h0 hm
    go_wp2
    go_end0
    exact ⟨rfl,HR.out⟩
  · have e0:((m:Int) == (k:Int))=false:=by simp;omega
    have hmk:m < k:=by omega
    have hds:Hid (dk.size=n):=by refine hid_mk ?_;rw [hS.out.1.1,HN.out]
    have HH:=hid_mk (hS.out.1.hold H0.out hg)
    obtain ⟨G,hG,hcw,-⟩:=hS.out.1.fam H0.out hg
    rw [HN.out] at hcw
    simp only [Nat.zero_add] at hcw
    have HG:Hid (∀ t,G t=dk[t]!):=hG
    have CW:Hid _:=hcw
    have SS:=hid_mk hS.out.1
    have ED:=hid_mk hS.out.2
    have HM:=hid_mk hm
    clear hG hcw hS hm
    have mL:=m_less B wr _ cB
    go_wp2_with fail
    cases hM:Sort.ltInt (G m) (G k)
    · have LB:=hid_mk (f_less_at g c n k m (i:=(k:Int)) (j:=(m:Int)) rfl rfl false wr (by omega) (by omega) (CW.out k (by omega)) (CW.out m (by omega)) hM)
      refine LB.out.mono ?_
      clear LB
      rintro e w3 ⟨rfl,q3,rfl⟩
      have HR:=hid_mk (show St w g 0 d (siftUp j d) (wr.drewN q3) by rw [← ED.out,siftUp_stop (by rw [HM.out,← HG.out,← HG.out];exact hM)];exact SS.out.drawn q3)
      clear SS CW HH hM
      go_wp2
      go_end0
      exact ⟨rfl,HR.out⟩
    · have LB:=hid_mk (f_less_at g c n k m (i:=(k:Int)) (j:=(m:Int)) rfl rfl true wr (by omega) (by omega) (CW.out k (by omega)) (CW.out m (by omega)) hM)
      refine LB.out.mono ?_
      clear LB
      rintro e w3 ⟨rfl,q3,rfl⟩
      have mS:=m_swap B (wr.drewN q3) _ cB
      have S3:=hid_mk (SS.out.drawn q3)
      have SW:=hid_mk (f_swap_at g c n m k (i:=(m:Int)) (j:=(k:Int)) rfl rfl dk (wr.drewN q3) hds.out (S3.out.hold H0.out hg).1 (S3.out.hold H0.out hg).2 (by omega) (by omega))
      have GO:Hid (siftUp k dk=siftUp m (Sort.swp dk m k)):=hid_mk (by rw [siftUp_go (by omega) (by rw [HM.out,← HG.out,← HG.out];exact hM),HM.out])
      clear SS CW HH hM
      generalize wr.drewN q3=w4 at *
      go_wp2_with fail
      refine SW.out.mono ?_
      rintro e w5 ⟨rfl,h5⟩
      have S5:=hid_mk (S3.out.trans hg h5)
      clear h5 SW S3 mS
      go_wp2_with fail
      go_roundw
      case rel=>exact ⟨m,_,rfl,by omega,S5.out,by rw [← GO.out];exact ED.out⟩
      case measure=>simp [intOf];omega
theorem h_down_at (B g c n:Nat) {x:Int} (i hi:Nat) (ei:(i:Int)=x) (d:Array Int) (hn:d.size=n) (w:World) (hB:w.cell? ⟨B,0,none⟩=some (.slice (some ⟨g,0,none⟩) n c)) (hne:B≠g) (hH:Sort.Holds (Value.int .u64) w g 0 d) (hg:g < w.heap.size) (hhi:hi≤n) (hsz:n≤1000000) (hi0:i≤hi) :
 Calls Tryz.prog 79 #[.iface 88 (.pointer (some ⟨B,0,none⟩)),.int .i64 x,.int .i64 hi] w fun e w'=>(∃ b,e=.returned (.bool b))∧St w g 0 d (Sort.siftDown Sort.ltInt hi 0 i d) w':=by
 subst ei
 exact h_down B g c n i hi d hn w hB hne hH hg hhi hsz hi0
set_option maxHeartbeats 8000000 in
set_option maxRecDepth 100000 in
theorem h_init (B g c n:Nat) (d:Array Int) (hn:d.size=n) (w:World) (hB:w.cell? ⟨B,0,none⟩=some (.slice (some ⟨g,0,none⟩) n c)) (hne:B≠g) (hH:Sort.Holds (Value.int .u64) w g 0 d) (hg:g < w.heap.size) (hsz:n≤1000000) :
 Calls Tryz.prog 53 #[.iface 88 (.pointer (some ⟨B,0,none⟩))] w fun e w'=>e=.returned (.tuple #[])∧St w g 0 d (Sort.heapBuild Sort.ltInt n 0 (n / 2) d) w':=by
 have H0:Hid (Sort.Holds (Value.int .u64) w g 0 d):=hH
 have HN:Hid (d.size=n):=hn
 have HB:Hid _:=hB
 have mN:=m_len B w _ hB
 have et:=half_of n
 obtain ⟨h,hh⟩:∃ h,n / 2=h:=⟨_,rfl⟩
 rw [hh] at et
 have hh0:h≤n:=by omega
 have HHn:=hid_mk hh
 clear hH hn hB hh
 go_enter Tryz.func53,Tryz.ntmps53
 go_wp2_with fail
 refine (f_len _ _ _ _).mono ?_
 rintro e w1 ⟨rfl,rfl⟩
 go_wp2_with fail
 go_loopw [3] (fun v3 wr=>∃ (k:Nat) (dk:Array Int),v3=.int .i64 ((k:Int) - 1)∧k≤h∧Hid (St w1 g 0 d dk wr∧Sort.heapBuild Sort.ltInt n 0 k dk=Sort.heapBuild Sort.ltInt n 0 (n / 2) d)) (fun v3 _=>(intOf v3+1).toNat)
 case atStart=>exact ⟨h,d,rfl,Nat.le_refl _,St.refl H0.out,by rw [HHn.out]⟩
 case round =>
  obtain ⟨k,dk,rfl,hk,hS⟩:=hrel
  have cB:=st_cell hS.out.1 HB.out hne
  cases k with
  | zero =>
   have HR:Hid (St w1 g 0 d (Sort.heapBuild Sort.ltInt n 0 (n / 2) d) wr):=by
    refine hid_mk ?_
    rw [← hS.out.2];exact hS.out.1
   clear hS
   go_wp2
   go_end0
   exact ⟨rfl,HR.out⟩
  | succ k =>
   have hds:dk.size=n:=by rw [hS.out.1.1,HN.out]
   have hh2:=hS.out.1.hold H0.out hg
   have ek:(k:Int)=((k+1:Nat):Int) - 1:=by omega
   have DN:=hid_mk (h_down_at B g c n (x:=((k+1:Nat):Int) - 1) k n ek dk hds wr cB hne hh2.1 hh2.2 (Nat.le_refl _) hsz (by omega))
   have e0:(0:Int)≤((k+1:Nat):Int) - 1:=by omega
   have SS:=hid_mk hS.out.1
   have ED:=hid_mk (show Sort.heapBuild Sort.ltInt n 0 k (Sort.siftDown Sort.ltInt n 0 k dk)=_ from hS.out.2)
   clear hS hds hh2 ek
   obtain ⟨x,hx⟩:∃ x,((k+1:Nat):Int) - 1=x:=⟨_,rfl⟩
   rw [hx] at DN e0 ⊢
   go_wp2_with fail
   refine DN.out.mono ?_
   rintro e w2 ⟨⟨b,rfl⟩,h2⟩
   have S2:=hid_mk (SS.out.trans hg h2)
   clear h2 DN SS cB
   go_wp2_with fail
   go_roundw
   case rel=>exact ⟨k,_,by congr 1;omega,by omega,S2.out,ED.out⟩
   case measure=>simp [intOf];omega
end Go.Proofs.YtlfjfendlohekaaGreatDoor
