/-
  The library's turning about of a part of a row of words, and its insertion sort that gives up, at this program: what they compute, in whatever memory.
-/
import Derived.Test.YtdklpgphmoaniaaGreatDoorSPartX
import Derived.Sort.WalkA6
namespace Go.Proofs.YtdklpgphmoaniaaGreatDoor
open Go.RowKit
set_option maxHeartbeats 4000000 in
set_option maxRecDepth 100000 in
theorem u_rev (g off cap a b n:Nat) (d:Array Int) (hn:d.size=n) (w:World) (hH:Sort.Holds (Value.int .u64) w g off d) (hg:g < w.heap.size) (hab:a≤b) (hb:b≤n) (hsz:n < 4611686018427387904) :
 Calls Tryz.prog 148 #[.slice (some ⟨g,off,none⟩) n cap,.int .i64 a,.int .i64 b] w fun e w' =>
  e=.returned (.tuple #[])∧∃ d',Sort.PermIn a b d d'∧St w g off d d' w':=by
 have H0:Hid (Sort.Holds (Value.int .u64) w g off d):=hH
 have HN:Hid (d.size=n):=hn
 clear hH hn
 go_enter Tryz.func148,Tryz.ntmps148
 go_wp2
 go_loopw [6,7] (fun vi vj wr=>∃ (i:Nat) (j:Int) (dk:Array Int),vi=.int .i64 i∧vj=.int .i64 j∧a≤i∧i≤b∧-1≤j∧j < b∧Hid (St w g off d dk wr∧Sort.PermIn a b d dk)) (fun vi _ _=>b - (intOf vi).toNat)
 case atStart=>exact ⟨a,(b:Int) - 1,d,rfl,rfl,Nat.le_refl _,hab,by omega,by omega,St.refl H0.out,perm_refl _ _ _⟩
 case round =>
  obtain ⟨i,j,dk,rfl,rfl,hai,hib,hj1,hjb,hS⟩:=hrel
  by_cases hlt:(i:Int) < j
  · obtain ⟨k,rfl⟩:∃ k:Nat,j=k:=⟨j.toNat,by omega⟩
    obtain ⟨G,hG,hcw,hfw⟩:=hS.out.1.fam H0.out hg
    rw [HN.out] at hcw hfw
    have S2:Hid (St w g off d (Sort.swp dk i k) (((wr.setCell ⟨g,off+i,none⟩ (.int .u64 (G k))).setCell ⟨g,off+k,none⟩ (.int .u64 (G i))).drew)):=hS.out.1.swap H0.out hg hG (by rw [HN.out];omega) (by rw [HN.out];omega) 1
    have P2:Hid (Sort.PermIn a b d (Sort.swp dk i k)):=perm_trans hS.out.2 (swp_perm _ _ _ _ _ (by omega) (by omega) (by omega) (by omega) (by rw [hS.out.1.1,HN.out];omega))
    obtain ⟨y3,hy3⟩:=cell?_setCell_some (w:=wr) (p:=⟨g,off+i,none⟩) (x:=.int .u64 (G k)) (q:=⟨g,off+k,none⟩) (hcw _ (by omega))
    clear hG hS
    go_wp2_with fail
    go_region
    go_wp2
    go_roundw
    case rel=>exact ⟨i+1,(k:Int) - 1,_,by go_num,rfl,by omega,by omega,by omega,by omega,S2.out,P2.out⟩
    case measure=>simp [intOf];omega
  · go_wp2
    go_end0
    exact ⟨rfl,dk,hS.out.2,hS.out.1⟩
set_option maxHeartbeats 16000000 in
set_option maxRecDepth 100000 in
theorem u_pins (g off cap a b n:Nat) (d:Array Int) (hn:d.size=n) (w:World) (hH:Sort.Holds (Value.int .u64) w g off d) (hg:g < w.heap.size) (hab:a < b) (hb:b≤n) (hsz:n < 4611686018427387904) :
 Calls Tryz.prog 149 #[.slice (some ⟨g,off,none⟩) n cap,.int .i64 a,.int .i64 b] w fun e w' =>
  e=.returned (.bool (Sort.partialInsertionSort Sort.ltInt d a b).2)∧St w g off d (Sort.partialInsertionSort Sort.ltInt d a b).1 w':=by
 have H0:Hid (Sort.Holds (Value.int .u64) w g off d):=hH
 have HN:Hid (d.size=n):=hn
 obtain ⟨R,hR⟩:∃ R,Sort.partialInsertionSort Sort.ltInt d a b=R:=⟨_,rfl⟩
 have HR0:Hid (Sort.partialIns Sort.ltInt a b 5 (a+1) d=R):=hR
 rw [hR]
 clear hH hn hR
 go_enter Tryz.func149,Tryz.ntmps149
 go_wp2
 go_loopw [7,8] (fun vi vs wr=>∃ (i s:Nat) (dk:Array Int),vi=.int .i64 i∧vs=.int .i64 s∧s≤5∧a < i∧i≤b∧Hid (St w g off d dk wr∧Sort.partialIns Sort.ltInt a b (5 - s) i dk=Sort.partialIns Sort.ltInt a b 5 (a+1) d)) (fun _ vs _=>5 - (intOf vs).toNat)
 case atStart=>exact ⟨a+1,0,d,by go_num,rfl,by omega,by omega,by omega,St.refl H0.out,rfl⟩
 case round =>
  obtain ⟨i,s,dk,rfl,rfl,hs5,hai,hib,hS⟩:=hrel
  by_cases hs:s < 5
  · go_wp2_with fail
    go_loopw [7] (fun vi wr2=>∃ (k:Nat),vi=.int .i64 k∧i≤k∧k≤b∧Hid (St w g off d dk wr2∧Sort.scanSorted Sort.ltInt dk b k=Sort.scanSorted Sort.ltInt dk b i)) (fun vi _=>b - (intOf vi).toNat)
    case atStart=>exact ⟨i,rfl,Nat.le_refl _,hib,hS.out.1,rfl⟩
    case round =>
     obtain ⟨k,rfl,hik,hkb,hK⟩:=hrel
     have HO:Hid (Sort.partialIns Sort.ltInt a b (5 - s) i dk=Sort.partialIns Sort.ltInt a b 5 (a+1) d):=hS.out.2
     clear hS
     by_cases hlt:k < b
     · obtain ⟨G,hG,hcw,hfw⟩:=hK.out.1.fam H0.out hg
       rw [HN.out] at hcw hfw
       have HG:Hid (∀ t,G t=dk[t]!):=hG
       clear hG
       go_wp2_with fail
       go_big_quiet (first | (go_at_call 150;refine Calls.quiet_of_same (u_less _ _ _)))
       go_wp2_with fail
       · have hl:=not_yes (show (!Sort.ltInt (G k) (G (k - 1)))=true by assumption)
         have S4:Hid (St w g off d dk (wr.drewN nq)∧Sort.scanSorted Sort.ltInt dk b (k+1)=Sort.scanSorted Sort.ltInt dk b i):=⟨hK.out.1.drawn nq,by rw [← hK.out.2,scanSorted_go Sort.ltInt dk b k hlt (by rw [← HG.out,← HG.out];exact hl)]⟩
         go_roundw
         case rel=>exact ⟨k+1,by go_num,by omega,by omega,S4.out⟩
         case measure=>simp [intOf];omega
       · have hl:=not_no (show (!Sort.ltInt (G k) (G (k - 1)))=false by assumption)
         have HK:Hid (Sort.scanSorted Sort.ltInt dk b i=k):=hid_mk (by rw [← hK.out.2,scanSorted_stop Sort.ltInt dk b k (Or.inr (by rw [← HG.out,← HG.out];exact hl))])
         have h50:b - a < 50:=by omega
         have HR1:Hid (R=(dk,false)):=hid_mk (by rw [← HR0.out,← HO.out,pi_short Sort.ltInt a b s i dk hs (by rw [HK.out];omega) h50])
         have S5:Hid (St w g off d dk (wr.drewN nq)):=hK.out.1.drawn nq
         have hr1:=HR1.out
         subst hr1
         go_ret
         exact ⟨rfl,S5.out⟩
       · have hl:=not_no (show (!Sort.ltInt (G k) (G (k - 1)))=false by assumption)
         have HK:Hid (Sort.scanSorted Sort.ltInt dk b i=k):=hid_mk (by rw [← hK.out.2,scanSorted_stop Sort.ltInt dk b k (Or.inr (by rw [← HG.out,← HG.out];exact hl))])
         have h50:¬ b - a < 50:=by omega
         have HO1:Hid (Sort.partialIns Sort.ltInt a b (5 - (s+1)) k (Sort.fixUp Sort.ltInt b k (Sort.fixDown Sort.ltInt a k (Sort.swp dk k (k - 1))))=Sort.partialIns Sort.ltInt a b 5 (a+1) d):=hid_mk (by rw [← HO.out,pi_go Sort.ltInt a b s i k dk hs HK.out (by omega) h50])
         have S3:Hid (St w g off d (Sort.swp dk k (k - 1)) ((((wr.drewN nq).setCell ⟨g,off+k,none⟩ (.int .u64 (G (k - 1)))).setCell ⟨g,off+(k - 1),none⟩ (.int .u64 (G k))).drew)):=hK.out.1.swap H0.out hg HG.out (by rw [HN.out];omega) (by rw [HN.out];omega) (nq+1)
         have hcw3:∀ t,t < n→(wr.drewN nq).cell? ⟨g,off+t,none⟩=some (.int .u64 (G t)):=hcw
         have hfw3:∀ t,t < n→(wr.drewN nq).frozen? ⟨g,off+t,none⟩=false:=hfw
         obtain ⟨y3,hy3⟩:=cell?_setCell_some (w:=wr.drewN nq) (p:=⟨g,off+k,none⟩) (x:=.int .u64 (G (k - 1))) (q:=⟨g,off+(k - 1),none⟩) (hcw3 _ (by omega))
         clear hK HG hcw hfw HK HO hl
         generalize wr.drewN nq=W7 at S3 hcw3 hfw3 hy3 ⊢
         go_region
         clear hy3 y3 hcw3 hfw3
         generalize ((W7.setCell ⟨g,off+k,none⟩ _).setCell ⟨g,off+_,none⟩ _).drew=W6 at S3 ⊢
         by_cases hbk:2≤b - k
         · have hbkz:decide (2≤(b:Int) - (k:Int))=true:=decide_eq_true (by omega)
           by_cases hka:2≤k - a
           · have hkaz:decide (2≤(k:Int) - (a:Int))=true:=decide_eq_true (by omega)
             go_wp2_with fail
             go_loopw [9] (fun vj wr2=>∃ (j:Nat) (dj:Array Int),vj=.int .i64 j∧j≤k - 1∧Hid (St w g off d dj wr2∧Sort.shiftDown Sort.ltInt j dj=Sort.fixDown Sort.ltInt a k (Sort.swp dk k (k - 1)))) (fun vj _=>(intOf vj).toNat)
             case atStart=>exact ⟨k - 1,Sort.swp dk k (k - 1),by go_num,by omega,S3.out,by unfold Sort.fixDown;rw [if_pos hka]⟩
             case round =>
              clear S3
              obtain ⟨j,dj,rfl,hjk,hJ⟩:=hrel
              by_cases hj1:1≤j
              · have hj1z:decide (1≤(j:Int))=true:=decide_eq_true (by omega)
                obtain ⟨G1,hG1,hcw1,hfw1⟩:=hJ.out.1.fam H0.out hg
                rw [HN.out] at hcw1 hfw1
                have HG1:Hid (∀ t,G1 t=dj[t]!):=hG1
                clear hG1
                go_wp2_with fail
                go_big_quiet (first | (go_at_call 150;refine Calls.quiet_of_same (u_less _ _ _)))
                go_wp2_with fail
                · have hl:=not_yes (show (!Sort.ltInt (G1 j) (G1 (j - 1)))=true by assumption)
                  have HD:Hid (dj=Sort.fixDown Sort.ltInt a k (Sort.swp dk k (k - 1))):=hid_mk (by rw [← hJ.out.2,shiftDown_stop Sort.ltInt j dj (Or.inr (by rw [← HG1.out,← HG1.out];exact hl))])
                  have SU:Hid (St w g off d dj (wr.drewN nq)):=hJ.out.1.drawn nq
                  generalize wr.drewN nq=W8 at SU ⊢
                  have HO2:Hid (Sort.partialIns Sort.ltInt a b (5 - (s+1)) k (Sort.fixUp Sort.ltInt b k dj)=Sort.partialIns Sort.ltInt a b 5 (a+1) d):=hid_mk (by rw [HD.out];exact HO1.out)
                  clear hJ HG1 hcw1 hfw1 HD HO1 hl
                  revert SU HO2
                  generalize dj=du
                  intro SU HO2
                  go_loopw [10] (fun vj wr2=>∃ (j:Nat) (dj:Array Int),vj=.int .i64 j∧k+1≤j∧j≤b∧Hid (St w g off d dj wr2∧Sort.shiftUp Sort.ltInt b j dj=Sort.fixUp Sort.ltInt b k du)) (fun vj _=>b - (intOf vj).toNat)
                  case atStart=>exact ⟨k+1,du,by go_num,Nat.le_refl _,by omega,SU.out,by unfold Sort.fixUp;rw [if_pos hbk]⟩
                  case round =>
                   clear SU
                   obtain ⟨j,dj,rfl,hkj,hjb,hJ⟩:=hrel
                   by_cases hjl:j < b
                   · obtain ⟨G2,hG2,hcw2,hfw2⟩:=hJ.out.1.fam H0.out hg
                     rw [HN.out] at hcw2 hfw2
                     have HG2:Hid (∀ t,G2 t=dj[t]!):=hG2
                     clear hG2
                     go_wp2_with fail
                     go_big_quiet (first | (go_at_call 150;refine Calls.quiet_of_same (u_less _ _ _)))
                     go_wp2_with fail
                     · have hl:=not_yes (show (!Sort.ltInt (G2 j) (G2 (j - 1)))=true by assumption)
                       have HR:Hid (St w g off d dj (wr.drewN nq)∧Sort.partialIns Sort.ltInt a b (5 - (s+1)) k dj=Sort.partialIns Sort.ltInt a b 5 (a+1) d):=by
                        refine hid_mk ⟨hJ.out.1.drawn nq,?_⟩
                        rw [← HO2.out,← hJ.out.2,shiftUp_stop Sort.ltInt b j dj (Or.inr (by rw [← HG2.out,← HG2.out];exact hl))]
                       generalize wr.drewN nq=W9 at HR ⊢
                       clear hJ HG2 hcw2 hfw2
                       go_roundw
                       case rel=>exact ⟨k,s+1,dj,rfl,by go_num,by omega,by omega,by omega,HR.out⟩
                       case measure=>simp [intOf];omega
                     · have hl:=not_no (show (!Sort.ltInt (G2 j) (G2 (j - 1)))=false by assumption)
                       have S4:Hid (St w g off d (Sort.swp dj j (j - 1)) ((((wr.drewN nq).setCell ⟨g,off+j,none⟩ (.int .u64 (G2 (j - 1)))).setCell ⟨g,off+(j - 1),none⟩ (.int .u64 (G2 j))).drew)∧Sort.shiftUp Sort.ltInt b (j+1) (Sort.swp dj j (j - 1))=Sort.fixUp Sort.ltInt b k du) :=
                        ⟨hJ.out.1.swap H0.out hg HG2.out (by rw [HN.out];omega) (by rw [HN.out];omega) (nq+1),by rw [← hJ.out.2,shiftUp_go Sort.ltInt b j dj hjl (by rw [← HG2.out,← HG2.out];exact hl)]⟩
                       have hcw3:∀ t,t < n→(wr.drewN nq).cell? ⟨g,off+t,none⟩=some (.int .u64 (G2 t)):=hcw2
                       have hfw3:∀ t,t < n→(wr.drewN nq).frozen? ⟨g,off+t,none⟩=false:=hfw2
                       obtain ⟨y3,hy3⟩:=cell?_setCell_some (w:=wr.drewN nq) (p:=⟨g,off+j,none⟩) (x:=.int .u64 (G2 (j - 1))) (q:=⟨g,off+(j - 1),none⟩) (hcw3 _ (by omega))
                       clear hJ HG2 hcw2 hfw2
                       generalize wr.drewN nq=W9 at S4 hcw3 hfw3 hy3 ⊢
                       go_region
                       go_wp2_with fail
                       go_roundw
                       case rel=>exact ⟨j+1,_,by go_num,by omega,by omega,S4.out⟩
                       case measure=>simp [intOf];omega
                   · have HR:Hid (St w g off d dj wr∧Sort.partialIns Sort.ltInt a b (5 - (s+1)) k dj=Sort.partialIns Sort.ltInt a b 5 (a+1) d):=by
                      refine hid_mk ⟨hJ.out.1,?_⟩
                      rw [← HO2.out,← hJ.out.2,shiftUp_stop Sort.ltInt b j dj (Or.inl hjl)]
                     clear hJ
                     go_wp2_with fail
                     go_roundw
                     case rel=>exact ⟨k,s+1,dj,rfl,by go_num,by omega,by omega,by omega,HR.out⟩
                     case measure=>simp [intOf];omega
                · have hl:=not_no (show (!Sort.ltInt (G1 j) (G1 (j - 1)))=false by assumption)
                  have S4:Hid (St w g off d (Sort.swp dj j (j - 1)) ((((wr.drewN nq).setCell ⟨g,off+j,none⟩ (.int .u64 (G1 (j - 1)))).setCell ⟨g,off+(j - 1),none⟩ (.int .u64 (G1 j))).drew)∧Sort.shiftDown Sort.ltInt (j - 1) (Sort.swp dj j (j - 1))=Sort.fixDown Sort.ltInt a k (Sort.swp dk k (k - 1))) :=
                   ⟨hJ.out.1.swap H0.out hg HG1.out (by rw [HN.out];omega) (by rw [HN.out];omega) (nq+1),by rw [← hJ.out.2,shiftDown_go Sort.ltInt j dj hj1 (by rw [← HG1.out,← HG1.out];exact hl)]⟩
                  have hcw3:∀ t,t < n→(wr.drewN nq).cell? ⟨g,off+t,none⟩=some (.int .u64 (G1 t)):=hcw1
                  have hfw3:∀ t,t < n→(wr.drewN nq).frozen? ⟨g,off+t,none⟩=false:=hfw1
                  obtain ⟨y3,hy3⟩:=cell?_setCell_some (w:=wr.drewN nq) (p:=⟨g,off+j,none⟩) (x:=.int .u64 (G1 (j - 1))) (q:=⟨g,off+(j - 1),none⟩) (hcw3 _ (by omega))
                  clear hJ HG1 hcw1 hfw1
                  generalize wr.drewN nq=W9 at S4 hcw3 hfw3 hy3 ⊢
                  go_region
                  go_wp2_with fail
                  go_roundw
                  case rel=>exact ⟨j - 1,_,by go_num,by omega,S4.out⟩
                  case measure=>simp [intOf];omega
              · have hj1z:decide (1≤(j:Int))=false:=df (by omega)
                have HD:Hid (dj=Sort.fixDown Sort.ltInt a k (Sort.swp dk k (k - 1))):=hid_mk (by rw [← hJ.out.2,shiftDown_stop Sort.ltInt j dj (Or.inl (by omega))])
                have SU:Hid (St w g off d dj wr):=hJ.out.1
                have HO2:Hid (Sort.partialIns Sort.ltInt a b (5 - (s+1)) k (Sort.fixUp Sort.ltInt b k dj)=Sort.partialIns Sort.ltInt a b 5 (a+1) d):=hid_mk (by rw [HD.out];exact HO1.out)
                clear hJ HD HO1
                revert SU HO2
                generalize dj=du
                intro SU HO2
                go_wp2_with fail
                go_loopw [10] (fun vj wr2=>∃ (j:Nat) (dj:Array Int),vj=.int .i64 j∧k+1≤j∧j≤b∧Hid (St w g off d dj wr2∧Sort.shiftUp Sort.ltInt b j dj=Sort.fixUp Sort.ltInt b k du)) (fun vj _=>b - (intOf vj).toNat)
                case atStart=>exact ⟨k+1,du,by go_num,Nat.le_refl _,by omega,SU.out,by unfold Sort.fixUp;rw [if_pos hbk]⟩
                case round =>
                 clear SU
                 obtain ⟨j,dj,rfl,hkj,hjb,hJ⟩:=hrel
                 by_cases hjl:j < b
                 · obtain ⟨G2,hG2,hcw2,hfw2⟩:=hJ.out.1.fam H0.out hg
                   rw [HN.out] at hcw2 hfw2
                   have HG2:Hid (∀ t,G2 t=dj[t]!):=hG2
                   clear hG2
                   go_wp2_with fail
                   go_big_quiet (first | (go_at_call 150;refine Calls.quiet_of_same (u_less _ _ _)))
                   go_wp2_with fail
                   · have hl:=not_yes (show (!Sort.ltInt (G2 j) (G2 (j - 1)))=true by assumption)
                     have HR:Hid (St w g off d dj (wr.drewN nq)∧Sort.partialIns Sort.ltInt a b (5 - (s+1)) k dj=Sort.partialIns Sort.ltInt a b 5 (a+1) d):=by
                      refine hid_mk ⟨hJ.out.1.drawn nq,?_⟩
                      rw [← HO2.out,← hJ.out.2,shiftUp_stop Sort.ltInt b j dj (Or.inr (by rw [← HG2.out,← HG2.out];exact hl))]
                     generalize wr.drewN nq=W9 at HR ⊢
                     clear hJ HG2 hcw2 hfw2
                     go_roundw
                     case rel=>exact ⟨k,s+1,dj,rfl,by go_num,by omega,by omega,by omega,HR.out⟩
                     case measure=>simp [intOf];omega
                   · have hl:=not_no (show (!Sort.ltInt (G2 j) (G2 (j - 1)))=false by assumption)
                     have S4:Hid (St w g off d (Sort.swp dj j (j - 1)) ((((wr.drewN nq).setCell ⟨g,off+j,none⟩ (.int .u64 (G2 (j - 1)))).setCell ⟨g,off+(j - 1),none⟩ (.int .u64 (G2 j))).drew)∧Sort.shiftUp Sort.ltInt b (j+1) (Sort.swp dj j (j - 1))=Sort.fixUp Sort.ltInt b k du) :=
                      ⟨hJ.out.1.swap H0.out hg HG2.out (by rw [HN.out];omega) (by rw [HN.out];omega) (nq+1),by rw [← hJ.out.2,shiftUp_go Sort.ltInt b j dj hjl (by rw [← HG2.out,← HG2.out];exact hl)]⟩
                     have hcw3:∀ t,t < n→(wr.drewN nq).cell? ⟨g,off+t,none⟩=some (.int .u64 (G2 t)):=hcw2
                     have hfw3:∀ t,t < n→(wr.drewN nq).frozen? ⟨g,off+t,none⟩=false:=hfw2
                     obtain ⟨y3,hy3⟩:=cell?_setCell_some (w:=wr.drewN nq) (p:=⟨g,off+j,none⟩) (x:=.int .u64 (G2 (j - 1))) (q:=⟨g,off+(j - 1),none⟩) (hcw3 _ (by omega))
                     clear hJ HG2 hcw2 hfw2
                     generalize wr.drewN nq=W9 at S4 hcw3 hfw3 hy3 ⊢
                     go_region
                     go_wp2_with fail
                     go_roundw
                     case rel=>exact ⟨j+1,_,by go_num,by omega,by omega,S4.out⟩
                     case measure=>simp [intOf];omega
                 · have HR:Hid (St w g off d dj wr∧Sort.partialIns Sort.ltInt a b (5 - (s+1)) k dj=Sort.partialIns Sort.ltInt a b 5 (a+1) d):=by
                    refine hid_mk ⟨hJ.out.1,?_⟩
                    rw [← HO2.out,← hJ.out.2,shiftUp_stop Sort.ltInt b j dj (Or.inl hjl)]
                   clear hJ
                   go_wp2_with fail
                   go_roundw
                   case rel=>exact ⟨k,s+1,dj,rfl,by go_num,by omega,by omega,by omega,HR.out⟩
                   case measure=>simp [intOf];omega
           · have hkaz:decide (2≤(k:Int) - (a:Int))=false:=df (by omega)
             have hfd:Sort.fixDown Sort.ltInt a k (Sort.swp dk k (k - 1))=Sort.swp dk k (k - 1):=by unfold Sort.fixDown;rw [if_neg hka]
             rw [hfd] at HO1
             clear hfd
             obtain ⟨du,hdu⟩:∃ z,Sort.swp dk k (k - 1)=z:=⟨_,rfl⟩
             rw [hdu] at HO1 S3
             clear hdu
             have SU:=S3
             have HO2:=HO1
             clear S3 HO1
             go_wp2_with fail
             go_loopw [10] (fun vj wr2=>∃ (j:Nat) (dj:Array Int),vj=.int .i64 j∧k+1≤j∧j≤b∧Hid (St w g off d dj wr2∧Sort.shiftUp Sort.ltInt b j dj=Sort.fixUp Sort.ltInt b k du)) (fun vj _=>b - (intOf vj).toNat)
             case atStart=>exact ⟨k+1,du,by go_num,Nat.le_refl _,by omega,SU.out,by unfold Sort.fixUp;rw [if_pos hbk]⟩
             case round =>
              clear SU
              obtain ⟨j,dj,rfl,hkj,hjb,hJ⟩:=hrel
              by_cases hjl:j < b
              · obtain ⟨G2,hG2,hcw2,hfw2⟩:=hJ.out.1.fam H0.out hg
                rw [HN.out] at hcw2 hfw2
                have HG2:Hid (∀ t,G2 t=dj[t]!):=hG2
                clear hG2
                go_wp2_with fail
                go_big_quiet (first | (go_at_call 150;refine Calls.quiet_of_same (u_less _ _ _)))
                go_wp2_with fail
                · have hl:=not_yes (show (!Sort.ltInt (G2 j) (G2 (j - 1)))=true by assumption)
                  have HR:Hid (St w g off d dj (wr.drewN nq)∧Sort.partialIns Sort.ltInt a b (5 - (s+1)) k dj=Sort.partialIns Sort.ltInt a b 5 (a+1) d):=by
                   refine hid_mk ⟨hJ.out.1.drawn nq,?_⟩
                   rw [← HO2.out,← hJ.out.2,shiftUp_stop Sort.ltInt b j dj (Or.inr (by rw [← HG2.out,← HG2.out];exact hl))]
                  generalize wr.drewN nq=W9 at HR ⊢
                  clear hJ HG2 hcw2 hfw2
                  go_roundw
                  case rel=>exact ⟨k,s+1,dj,rfl,by go_num,by omega,by omega,by omega,HR.out⟩
                  case measure=>simp [intOf];omega
                · have hl:=not_no (show (!Sort.ltInt (G2 j) (G2 (j - 1)))=false by assumption)
                  have S4:Hid (St w g off d (Sort.swp dj j (j - 1)) ((((wr.drewN nq).setCell ⟨g,off+j,none⟩ (.int .u64 (G2 (j - 1)))).setCell ⟨g,off+(j - 1),none⟩ (.int .u64 (G2 j))).drew)∧Sort.shiftUp Sort.ltInt b (j+1) (Sort.swp dj j (j - 1))=Sort.fixUp Sort.ltInt b k du) :=
                   ⟨hJ.out.1.swap H0.out hg HG2.out (by rw [HN.out];omega) (by rw [HN.out];omega) (nq+1),by rw [← hJ.out.2,shiftUp_go Sort.ltInt b j dj hjl (by rw [← HG2.out,← HG2.out];exact hl)]⟩
                  have hcw3:∀ t,t < n→(wr.drewN nq).cell? ⟨g,off+t,none⟩=some (.int .u64 (G2 t)):=hcw2
                  have hfw3:∀ t,t < n→(wr.drewN nq).frozen? ⟨g,off+t,none⟩=false:=hfw2
                  obtain ⟨y3,hy3⟩:=cell?_setCell_some (w:=wr.drewN nq) (p:=⟨g,off+j,none⟩) (x:=.int .u64 (G2 (j - 1))) (q:=⟨g,off+(j - 1),none⟩) (hcw3 _ (by omega))
                  clear hJ HG2 hcw2 hfw2
                  generalize wr.drewN nq=W9 at S4 hcw3 hfw3 hy3 ⊢
                  go_region
                  go_wp2_with fail
                  go_roundw
                  case rel=>exact ⟨j+1,_,by go_num,by omega,by omega,S4.out⟩
                  case measure=>simp [intOf];omega
              · have HR:Hid (St w g off d dj wr∧Sort.partialIns Sort.ltInt a b (5 - (s+1)) k dj=Sort.partialIns Sort.ltInt a b 5 (a+1) d):=by
                 refine hid_mk ⟨hJ.out.1,?_⟩
                 rw [← HO2.out,← hJ.out.2,shiftUp_stop Sort.ltInt b j dj (Or.inl hjl)]
                clear hJ
                go_wp2_with fail
                go_roundw
                case rel=>exact ⟨k,s+1,dj,rfl,by go_num,by omega,by omega,by omega,HR.out⟩
                case measure=>simp [intOf];omega
         · have hbkz:decide (2≤(b:Int) - (k:Int))=false:=df (by omega)
           by_cases hka:2≤k - a
           · have hkaz:decide (2≤(k:Int) - (a:Int))=true:=decide_eq_true (by omega)
             go_wp2_with fail
             go_loopw [9] (fun vj wr2=>∃ (j:Nat) (dj:Array Int),vj=.int .i64 j∧j≤k - 1∧Hid (St w g off d dj wr2∧Sort.shiftDown Sort.ltInt j dj=Sort.fixDown Sort.ltInt a k (Sort.swp dk k (k - 1)))) (fun vj _=>(intOf vj).toNat)
             case atStart=>exact ⟨k - 1,Sort.swp dk k (k - 1),by go_num,by omega,S3.out,by unfold Sort.fixDown;rw [if_pos hka]⟩
             case round =>
              clear S3
              obtain ⟨j,dj,rfl,hjk,hJ⟩:=hrel
              by_cases hj1:1≤j
              · have hj1z:decide (1≤(j:Int))=true:=decide_eq_true (by omega)
                obtain ⟨G1,hG1,hcw1,hfw1⟩:=hJ.out.1.fam H0.out hg
                rw [HN.out] at hcw1 hfw1
                have HG1:Hid (∀ t,G1 t=dj[t]!):=hG1
                clear hG1
                go_wp2_with fail
                go_big_quiet (first | (go_at_call 150;refine Calls.quiet_of_same (u_less _ _ _)))
                go_wp2_with fail
                · have hl:=not_yes (show (!Sort.ltInt (G1 j) (G1 (j - 1)))=true by assumption)
                  have HD:Hid (dj=Sort.fixDown Sort.ltInt a k (Sort.swp dk k (k - 1))):=hid_mk (by rw [← hJ.out.2,shiftDown_stop Sort.ltInt j dj (Or.inr (by rw [← HG1.out,← HG1.out];exact hl))])
                  have SU:Hid (St w g off d dj (wr.drewN nq)):=hJ.out.1.drawn nq
                  generalize wr.drewN nq=W8 at SU ⊢
                  have HO2:Hid (Sort.partialIns Sort.ltInt a b (5 - (s+1)) k (Sort.fixUp Sort.ltInt b k dj)=Sort.partialIns Sort.ltInt a b 5 (a+1) d):=hid_mk (by rw [HD.out];exact HO1.out)
                  clear hJ HG1 hcw1 hfw1 HD HO1 hl
                  revert SU HO2
                  generalize dj=du
                  intro SU HO2
                  have hfu:Sort.fixUp Sort.ltInt b k du=du:=by unfold Sort.fixUp;rw [if_neg hbk]
                  rw [hfu] at HO2
                  clear hfu
                  go_roundw
                  case rel=>exact ⟨k,s+1,du,rfl,by go_num,by omega,by omega,by omega,SU.out,HO2.out⟩
                  case measure=>simp [intOf];omega
                · have hl:=not_no (show (!Sort.ltInt (G1 j) (G1 (j - 1)))=false by assumption)
                  have S4:Hid (St w g off d (Sort.swp dj j (j - 1)) ((((wr.drewN nq).setCell ⟨g,off+j,none⟩ (.int .u64 (G1 (j - 1)))).setCell ⟨g,off+(j - 1),none⟩ (.int .u64 (G1 j))).drew)∧Sort.shiftDown Sort.ltInt (j - 1) (Sort.swp dj j (j - 1))=Sort.fixDown Sort.ltInt a k (Sort.swp dk k (k - 1))) :=
                   ⟨hJ.out.1.swap H0.out hg HG1.out (by rw [HN.out];omega) (by rw [HN.out];omega) (nq+1),by rw [← hJ.out.2,shiftDown_go Sort.ltInt j dj hj1 (by rw [← HG1.out,← HG1.out];exact hl)]⟩
                  have hcw3:∀ t,t < n→(wr.drewN nq).cell? ⟨g,off+t,none⟩=some (.int .u64 (G1 t)):=hcw1
                  have hfw3:∀ t,t < n→(wr.drewN nq).frozen? ⟨g,off+t,none⟩=false:=hfw1
                  obtain ⟨y3,hy3⟩:=cell?_setCell_some (w:=wr.drewN nq) (p:=⟨g,off+j,none⟩) (x:=.int .u64 (G1 (j - 1))) (q:=⟨g,off+(j - 1),none⟩) (hcw3 _ (by omega))
                  clear hJ HG1 hcw1 hfw1
                  generalize wr.drewN nq=W9 at S4 hcw3 hfw3 hy3 ⊢
                  go_region
                  go_wp2_with fail
                  go_roundw
                  case rel=>exact ⟨j - 1,_,by go_num,by omega,S4.out⟩
                  case measure=>simp [intOf];omega
              · have hj1z:decide (1≤(j:Int))=false:=df (by omega)
                have HD:Hid (dj=Sort.fixDown Sort.ltInt a k (Sort.swp dk k (k - 1))):=hid_mk (by rw [← hJ.out.2,shiftDown_stop Sort.ltInt j dj (Or.inl (by omega))])
                have SU:Hid (St w g off d dj wr):=hJ.out.1
                have HO2:Hid (Sort.partialIns Sort.ltInt a b (5 - (s+1)) k (Sort.fixUp Sort.ltInt b k dj)=Sort.partialIns Sort.ltInt a b 5 (a+1) d):=hid_mk (by rw [HD.out];exact HO1.out)
                clear hJ HD HO1
                revert SU HO2
                generalize dj=du
                intro SU HO2
                have hfu:Sort.fixUp Sort.ltInt b k du=du:=by unfold Sort.fixUp;rw [if_neg hbk]
                rw [hfu] at HO2
                clear hfu
                go_wp2_with fail
                go_roundw
                case rel=>exact ⟨k,s+1,du,rfl,by go_num,by omega,by omega,by omega,SU.out,HO2.out⟩
                case measure=>simp [intOf];omega
           · have hkaz:decide (2≤(k:Int) - (a:Int))=false:=df (by omega)
             have hfd:Sort.fixDown Sort.ltInt a k (Sort.swp dk k (k - 1))=Sort.swp dk k (k - 1):=by unfold Sort.fixDown;rw [if_neg hka]
             rw [hfd] at HO1
             clear hfd
             obtain ⟨du,hdu⟩:∃ z,Sort.swp dk k (k - 1)=z:=⟨_,rfl⟩
             rw [hdu] at HO1 S3
             clear hdu
             have SU:=S3
             have HO2:=HO1
             clear S3 HO1
             have hfu:Sort.fixUp Sort.ltInt b k du=du:=by unfold Sort.fixUp;rw [if_neg hbk]
             rw [hfu] at HO2
             clear hfu
             go_wp2_with fail
             go_roundw
             case rel=>exact ⟨k,s+1,du,rfl,by go_num,by omega,by omega,by omega,SU.out,HO2.out⟩
             case measure=>simp [intOf];omega
     · obtain rfl:k=b:=by omega
       have HK:Hid (Sort.scanSorted Sort.ltInt dk k i=k):=hid_mk (by rw [← hK.out.2,scanSorted_stop Sort.ltInt dk k k (Or.inl hlt)])
       have HR1:Hid (R=(dk,true)):=hid_mk (by rw [← HR0.out,← HO.out,pi_true Sort.ltInt a k s i dk hs HK.out])
       have hltz:decide ((k:Int) < (k:Int))=false:=df (by omega)
       go_wp2_with fail
       go_big_quiet (first | (go_at_call 150;refine Calls.quiet_of_same (u_less _ _ _)))
       have S5:Hid (St w g off d dk (wr.drewN nq)):=hK.out.1.drawn nq
       have hr1:=HR1.out
       subst hr1
       go_wp2_with fail
       go_ret
       exact ⟨rfl,S5.out⟩
  · have hs1:s=5:=by omega
    subst hs1
    have HR1:Hid (R=(dk,false)):=hid_mk (by rw [← HR0.out,← hS.out.2,pi_end])
    have S5:Hid (St w g off d dk wr):=hS.out.1
    clear hS
    have hr1:=HR1.out
    subst hr1
    go_wp2
    go_ret
    exact ⟨rfl,S5.out⟩
end Go.Proofs.YtdklpgphmoaniaaGreatDoor
