/-
  The library's heap over package cover's heap of spots: how one goes down and up; in whatever memory.
-/
import Derived.Test.YtdklpgphmoaniabGreatDoorJn19
namespace Go.Proofs.YtdklpgphmoaniabGreatDoor
open Go.RowKit
theorem n_len (B o:Nat) (w:World) (v:Value) (h:w.cell? ⟨B,o,none⟩=some v):(method 314 124 (.pointer (some ⟨B,o,none⟩)) "Len").run Tryz.prog w=.ok (152,v) w:=by
 have e:(method 314 124 (.pointer (some ⟨B,o,none⟩)) "Len").run Tryz.prog w=(Sem.load Mode.plain ⟨B,o,none⟩ (fun v=>Sem.pure (152,v))).run Tryz.prog w:=by kernel_rfl
 rw [e];simp [Sem.run,h]
theorem n_less (B o:Nat) (w:World) (v:Value) (h:w.cell? ⟨B,o,none⟩=some v):(method 314 124 (.pointer (some ⟨B,o,none⟩)) "Less").run Tryz.prog w=.ok (153,v) w:=by
 have e:(method 314 124 (.pointer (some ⟨B,o,none⟩)) "Less").run Tryz.prog w=(Sem.load Mode.plain ⟨B,o,none⟩ (fun v=>Sem.pure (153,v))).run Tryz.prog w:=by kernel_rfl
 rw [e];simp [Sem.run,h]
theorem n_swap (B o:Nat) (w:World) (v:Value) (h:w.cell? ⟨B,o,none⟩=some v):(method 314 124 (.pointer (some ⟨B,o,none⟩)) "Swap").run Tryz.prog w=.ok (154,v) w:=by
 have e:(method 314 124 (.pointer (some ⟨B,o,none⟩)) "Swap").run Tryz.prog w=(Sem.load Mode.plain ⟨B,o,none⟩ (fun v=>Sem.pure (154,v))).run Tryz.prog w:=by kernel_rfl
 rw [e];simp [Sem.run,h]
theorem n_push (B o:Nat) (w:World):(method 314 124 (.pointer (some ⟨B,o,none⟩)) "Push").run Tryz.prog w=.ok (163,.pointer (some ⟨B,o,none⟩)) w:=by kernel_rfl
theorem n_pop (B o:Nat) (w:World):(method 314 124 (.pointer (some ⟨B,o,none⟩)) "Pop").run Tryz.prog w=.ok (162,.pointer (some ⟨B,o,none⟩)) w:=by kernel_rfl
theorem q_len (v:Value) (n:Nat) (hv:∃ p c,v=.slice p n c) (w:World):Calls Tryz.prog 152 #[v] w fun e w'=>e=.returned (.int .i64 (n:Int))∧w'=w:=by
 obtain ⟨p,c,rfl⟩:=hv
 go_enter Tryz.func152,Tryz.ntmps152
 go_wp2
 go_ret
 exact ⟨rfl,rfl⟩
theorem sd_end' {d:Array Int} {hi r:Nat} (h:hi≤2*r+1):Sort.siftDown Sort.ltInt hi 0 r d=d:=Sort.sd_end _ _ h
theorem sd_rs {d:Array Int} {hi r:Nat} (h:2*r+2 < hi) (h1:Sort.ltInt d[2*r+1]! d[2*r+2]! =true) (h2:Sort.ltInt d[r]! d[2*r+2]! =false):Sort.siftDown Sort.ltInt hi 0 r d=d:=by
 have:=Sort.sd_right_stop (lt:=Sort.ltInt) (hi:=hi) (F:=0) (root:=r) d h
 simp only [Nat.zero_add] at this
 exact this h1 h2
theorem sd_rg {d:Array Int} {hi r:Nat} (h:2*r+2 < hi) (h1:Sort.ltInt d[2*r+1]! d[2*r+2]! =true) (h2:Sort.ltInt d[r]! d[2*r+2]! =true):Sort.siftDown Sort.ltInt hi 0 r d=Sort.siftDown Sort.ltInt hi 0 (2*r+2) (Sort.swp d r (2*r+2)):=by
 have:=Sort.sd_right_go (lt:=Sort.ltInt) (hi:=hi) (F:=0) (root:=r) d h
 simp only [Nat.zero_add] at this
 exact this h1 h2
theorem sd_ls {d:Array Int} {hi r:Nat} (h:2*r+1 < hi) (h1:2*r+2 < hi→Sort.ltInt d[2*r+1]! d[2*r+2]! =false) (h2:Sort.ltInt d[r]! d[2*r+1]! =false):Sort.siftDown Sort.ltInt hi 0 r d=d:=by
 have:=Sort.sd_left_stop (lt:=Sort.ltInt) (hi:=hi) (F:=0) (root:=r) d h
 simp only [Nat.zero_add] at this
 exact this h1 h2
theorem sd_lg {d:Array Int} {hi r:Nat} (h:2*r+1 < hi) (h1:2*r+2 < hi→Sort.ltInt d[2*r+1]! d[2*r+2]! =false) (h2:Sort.ltInt d[r]! d[2*r+1]! =true):Sort.siftDown Sort.ltInt hi 0 r d=Sort.siftDown Sort.ltInt hi 0 (2*r+1) (Sort.swp d r (2*r+1)):=by
 have:=Sort.sd_left_go (lt:=Sort.ltInt) (hi:=hi) (F:=0) (root:=r) d h
 simp only [Nat.zero_add] at this
 exact this h1 h2
set_option maxHeartbeats 8000000 in
set_option maxRecDepth 100000 in
theorem n_down (B o base g c n i hi:Nat) (d:Array Int) (hn:d.size=n) (w:World) (hB:w.cell? ⟨B,o,none⟩=some (.slice (some ⟨g,0,none⟩) n c)) (hne:B≠g) (hH:RowS base g c d w) (hhi:hi≤n) (hsz:n≤1000000) (hi0:i≤hi) :
 Calls Tryz.prog 118 #[.iface 124 (.pointer (some ⟨B,o,none⟩)),.int .i64 i,.int .i64 hi] w fun e w'=>(∃ b,e=.returned (.bool b))∧RowS base g c (Sort.siftDown Sort.ltInt hi 0 i d) w'∧w.grownBy w' (some g):=by
 have H0:=hidd hH
 have HN:=hidd hn
 have HB:=hidd hB
 clear hH hn hB
 go_enter Tryz.func118,Tryz.ntmps118
 go_wp2_with fail
 go_loopw [7] (fun v7 wr=>∃ (r:Nat) (dk:Array Int),v7=.int .i64 r∧r≤hi∧Hid (RowS base g c dk wr)∧Hid (w.grownBy wr (some g))∧Hid (dk.size=n)∧Hid (Sort.siftDown Sort.ltInt hi 0 r dk=Sort.siftDown Sort.ltInt hi 0 i d)) (fun v7 _=>hi - (intOf v7).toNat)
 case atStart=>exact ⟨i,d,rfl,hi0,H0,hidd (grown_refl _ _),HN,hidd rfl⟩
 case round =>
  obtain ⟨r,dk,rfl,hr,RO,GR,ND,ED⟩:=hrel
  have cB:=GR.out.cell HB.out (by simpa using hne)
  by_cases h0:hi≤2*r+1
  · have e0:(hi:Int)≤2*(r:Int)+1:=by omega
    have HR:Hid (RowS base g c (Sort.siftDown Sort.ltInt hi 0 i d) wr∧w.grownBy wr (some g)):=hidd ⟨by rw [← ED.out,sd_end' h0];exact RO.out,GR.out⟩
    clear RO GR ED
    go_wp2
    go_ret
    exact ⟨⟨_,rfl⟩,HR.out⟩
  · have e0:decide ((hi:Int)≤2*(r:Int)+1)=false:=df (by omega)
    have e1:decide (2*(r:Int)+1 < 0)=false:=df (by omega)
    have mL:=n_less B o wr _ cB
    by_cases h1:2*r+2 < hi
    · have e2:2*(r:Int)+1+1 < (hi:Int):=by omega
      cases hL:Sort.ltInt dk[2*r+1]! dk[2*r+2]!
      · have LA:=hidd (q_less g c n (2*r+2) (2*r+1) (i:=2*(r:Int)+1+1) (j:=2*(r:Int)+1) (by omega) (by omega) dk[2*r+2]! dk[2*r+1]! false wr (by omega) (by omega) (RO.out.at_ (2*r+2) (by have:=ND.out;omega)).1 (RO.out.at_ (2*r+1) (by have:=ND.out;omega)).1 hL)
        have FL:=hidd hL
        clear hL
        go_wp2_with fail
        refine LA.out.mono ?_
        rintro e w2 ⟨rfl,b2⟩
        replace cB:=keepCell b2 cB
        replace RO:=hidd (RO.out.keep b2)
        replace GR:=hidd (grown_trans GR.out (grown_below _ b2))
        clear LA mL b2
        have mL:=n_less B o w2 _ cB
        go_wp2_with fail
        cases hM:Sort.ltInt dk[r]! dk[2*r+1]!
        · have LB:=hidd (q_less g c n (2*r+1) (r) (i:=2*(r:Int)+1) (j:=(r:Int)) (by omega) rfl dk[2*r+1]! dk[r]! false w2 (by omega) (by omega) (RO.out.at_ (2*r+1) (by have:=ND.out;omega)).1 (RO.out.at_ (r) (by have:=ND.out;omega)).1 hM)
          have ST:Hid (Sort.siftDown Sort.ltInt hi 0 r dk=dk):=hidd (sd_ls (by omega) (fun _=>FL.out) hM)
          clear hM
          refine LB.out.mono ?_
          clear LB
          rintro e w3 ⟨rfl,b3⟩
          have HR:Hid (RowS base g c (Sort.siftDown Sort.ltInt hi 0 i d) w3∧w.grownBy w3 (some g)):=hidd ⟨by rw [← ED.out,ST.out];exact RO.out.keep b3,grown_trans GR.out (grown_below _ b3)⟩
          clear ST RO GR b3
          go_wp2
          go_ret
          exact ⟨⟨_,rfl⟩,HR.out⟩
        · have LB:=hidd (q_less g c n (2*r+1) (r) (i:=2*(r:Int)+1) (j:=(r:Int)) (by omega) rfl dk[2*r+1]! dk[r]! true w2 (by omega) (by omega) (RO.out.at_ (2*r+1) (by have:=ND.out;omega)).1 (RO.out.at_ (r) (by have:=ND.out;omega)).1 hM)
          have GO:Hid (Sort.siftDown Sort.ltInt hi 0 r dk=Sort.siftDown Sort.ltInt hi 0 (2*r+1) (Sort.swp dk r (2*r+1))):=hidd (sd_lg (by omega) (fun _=>FL.out) hM)
          clear hM
          refine LB.out.mono ?_
          clear LB
          rintro e w3 ⟨rfl,b3⟩
          have c3:=keepCell b3 cB
          have mS:=n_swap B o w3 _ c3
          have RO3:=hidd (RO.out.keep b3)
          have GR3:=hidd (grown_trans GR.out (grown_below _ b3))
          have SW:=hidd (q_swap base g c n (i:=(r:Int)) (j:=2*(r:Int)+1) r (2*r+1) rfl (by omega) dk w3 ND.out RO3.out (by omega) (by omega))
          clear RO GR cB b3
          go_wp2_with fail
          refine SW.out.mono ?_
          rintro e w5 ⟨rfl,h5,g5⟩
          have RO5:=hidd h5
          have GR5:=hidd (grown_trans GR3.out g5)
          have ND5:Hid ((Sort.swp dk r (2*r+1)).size=n):=hidd (by rw [Sort.size_swp];exact ND.out)
          have ED5:=hidd (GO.out.symm.trans ED.out)
          clear SW mS RO3 GR3 h5 g5 c3 GO
          go_wp2_with fail
          go_roundw
          case rel=>exact ⟨2*r+1,_,by congr 1 <;>omega,by omega,RO5,GR5,ND5,ED5⟩
          case measure=>simp [intOf];omega
      · have LA:=hidd (q_less g c n (2*r+2) (2*r+1) (i:=2*(r:Int)+1+1) (j:=2*(r:Int)+1) (by omega) (by omega) dk[2*r+2]! dk[2*r+1]! true wr (by omega) (by omega) (RO.out.at_ (2*r+2) (by have:=ND.out;omega)).1 (RO.out.at_ (2*r+1) (by have:=ND.out;omega)).1 hL)
        have FL:=hidd hL
        clear hL
        go_wp2_with fail
        refine LA.out.mono ?_
        rintro e w2 ⟨rfl,b2⟩
        replace cB:=keepCell b2 cB
        replace RO:=hidd (RO.out.keep b2)
        replace GR:=hidd (grown_trans GR.out (grown_below _ b2))
        clear LA mL b2
        have mL:=n_less B o w2 _ cB
        go_wp2_with fail
        cases hM:Sort.ltInt dk[r]! dk[2*r+2]!
        · have LB:=hidd (q_less g c n (2*r+2) (r) (i:=2*(r:Int)+1+1) (j:=(r:Int)) (by omega) rfl dk[2*r+2]! dk[r]! false w2 (by omega) (by omega) (RO.out.at_ (2*r+2) (by have:=ND.out;omega)).1 (RO.out.at_ (r) (by have:=ND.out;omega)).1 hM)
          have ST:Hid (Sort.siftDown Sort.ltInt hi 0 r dk=dk):=hidd (sd_rs h1 FL.out hM)
          clear hM
          refine LB.out.mono ?_
          clear LB
          rintro e w3 ⟨rfl,b3⟩
          have HR:Hid (RowS base g c (Sort.siftDown Sort.ltInt hi 0 i d) w3∧w.grownBy w3 (some g)):=hidd ⟨by rw [← ED.out,ST.out];exact RO.out.keep b3,grown_trans GR.out (grown_below _ b3)⟩
          clear ST RO GR b3
          go_wp2
          go_ret
          exact ⟨⟨_,rfl⟩,HR.out⟩
        · have LB:=hidd (q_less g c n (2*r+2) (r) (i:=2*(r:Int)+1+1) (j:=(r:Int)) (by omega) rfl dk[2*r+2]! dk[r]! true w2 (by omega) (by omega) (RO.out.at_ (2*r+2) (by have:=ND.out;omega)).1 (RO.out.at_ (r) (by have:=ND.out;omega)).1 hM)
          have GO:Hid (Sort.siftDown Sort.ltInt hi 0 r dk=Sort.siftDown Sort.ltInt hi 0 (2*r+2) (Sort.swp dk r (2*r+2))):=hidd (sd_rg h1 FL.out hM)
          clear hM
          refine LB.out.mono ?_
          clear LB
          rintro e w3 ⟨rfl,b3⟩
          have c3:=keepCell b3 cB
          have mS:=n_swap B o w3 _ c3
          have RO3:=hidd (RO.out.keep b3)
          have GR3:=hidd (grown_trans GR.out (grown_below _ b3))
          have SW:=hidd (q_swap base g c n (i:=(r:Int)) (j:=2*(r:Int)+1+1) r (2*r+2) rfl (by omega) dk w3 ND.out RO3.out (by omega) (by omega))
          clear RO GR cB b3
          go_wp2_with fail
          refine SW.out.mono ?_
          rintro e w5 ⟨rfl,h5,g5⟩
          have RO5:=hidd h5
          have GR5:=hidd (grown_trans GR3.out g5)
          have ND5:Hid ((Sort.swp dk r (2*r+2)).size=n):=hidd (by rw [Sort.size_swp];exact ND.out)
          have ED5:=hidd (GO.out.symm.trans ED.out)
          clear SW mS RO3 GR3 h5 g5 c3 GO
          go_wp2_with fail
          go_roundw
          case rel=>exact ⟨2*r+2,_,by congr 1 <;>omega,by omega,RO5,GR5,ND5,ED5⟩
          case measure=>simp [intOf];omega
    · have e2:decide (2*(r:Int)+1+1 < (hi:Int))=false:=df (by omega)
      go_wp2_with fail
      cases hM:Sort.ltInt dk[r]! dk[2*r+1]!
      · have LB:=hidd (q_less g c n (2*r+1) (r) (i:=2*(r:Int)+1) (j:=(r:Int)) (by omega) rfl dk[2*r+1]! dk[r]! false wr (by omega) (by omega) (RO.out.at_ (2*r+1) (by have:=ND.out;omega)).1 (RO.out.at_ (r) (by have:=ND.out;omega)).1 hM)
        have ST:Hid (Sort.siftDown Sort.ltInt hi 0 r dk=dk):=hidd (sd_ls (by omega) (fun h=>absurd h h1) hM)
        clear hM
        refine LB.out.mono ?_
        clear LB
        rintro e w3 ⟨rfl,b3⟩
        have HR:Hid (RowS base g c (Sort.siftDown Sort.ltInt hi 0 i d) w3∧w.grownBy w3 (some g)):=hidd ⟨by rw [← ED.out,ST.out];exact RO.out.keep b3,grown_trans GR.out (grown_below _ b3)⟩
        clear ST RO GR b3
        go_wp2
        go_ret
        exact ⟨⟨_,rfl⟩,HR.out⟩
      · have LB:=hidd (q_less g c n (2*r+1) (r) (i:=2*(r:Int)+1) (j:=(r:Int)) (by omega) rfl dk[2*r+1]! dk[r]! true wr (by omega) (by omega) (RO.out.at_ (2*r+1) (by have:=ND.out;omega)).1 (RO.out.at_ (r) (by have:=ND.out;omega)).1 hM)
        have GO:Hid (Sort.siftDown Sort.ltInt hi 0 r dk=Sort.siftDown Sort.ltInt hi 0 (2*r+1) (Sort.swp dk r (2*r+1))):=hidd (sd_lg (by omega) (fun h=>absurd h h1) hM)
        clear hM
        refine LB.out.mono ?_
        clear LB
        rintro e w3 ⟨rfl,b3⟩
        have c3:=keepCell b3 cB
        have mS:=n_swap B o w3 _ c3
        have RO3:=hidd (RO.out.keep b3)
        have GR3:=hidd (grown_trans GR.out (grown_below _ b3))
        have SW:=hidd (q_swap base g c n (i:=(r:Int)) (j:=2*(r:Int)+1) r (2*r+1) rfl (by omega) dk w3 ND.out RO3.out (by omega) (by omega))
        clear RO GR cB b3
        go_wp2_with fail
        refine SW.out.mono ?_
        rintro e w5 ⟨rfl,h5,g5⟩
        have RO5:=hidd h5
        have GR5:=hidd (grown_trans GR3.out g5)
        have ND5:Hid ((Sort.swp dk r (2*r+1)).size=n):=hidd (by rw [Sort.size_swp];exact ND.out)
        have ED5:=hidd (GO.out.symm.trans ED.out)
        clear SW mS RO3 GR3 h5 g5 c3 GO
        go_wp2_with fail
        go_roundw
        case rel=>exact ⟨2*r+1,_,by congr 1 <;>omega,by omega,RO5,GR5,ND5,ED5⟩
        case measure=>simp [intOf];omega
theorem half_back (j:Nat):((j:Int) - 1).tdiv 2=(((j - 1) / 2:Nat):Int):=by
 by_cases h:j=0
 · subst h;decide
 · rw [Int.tdiv_eq_ediv_of_nonneg (by omega)];omega
set_option maxHeartbeats 8000000 in
set_option maxRecDepth 100000 in
theorem n_up (B o base g c n j:Nat) (d:Array Int) (hn:d.size=n) (w:World) (hB:w.cell? ⟨B,o,none⟩=some (.slice (some ⟨g,0,none⟩) n c)) (hne:B≠g) (hH:RowS base g c d w) (hj:j < n) (hsz:n≤1000000) :
 Calls Tryz.prog 92 #[.iface 124 (.pointer (some ⟨B,o,none⟩)),.int .i64 j] w fun e w'=>e=.returned (.tuple #[])∧RowS base g c (siftUp j d) w'∧w.grownBy w' (some g):=by
 have H0:=hidd hH
 have HN:=hidd hn
 have HB:=hidd hB
 clear hH hn hB
 go_enter Tryz.func92,Tryz.ntmps92
 go_wp2_with fail
 go_loopw [1] (fun v1 wr=>∃ (k:Nat) (dk:Array Int),v1=.int .i64 k∧k < n∧Hid (RowS base g c dk wr)∧Hid (w.grownBy wr (some g))∧Hid (dk.size=n)∧Hid (siftUp k dk=siftUp j d)) (fun v1 _=>(intOf v1).toNat)
 case atStart=>exact ⟨j,d,rfl,hj,H0,hidd (grown_refl _ _),HN,hidd rfl⟩
 case round =>
  obtain ⟨k,dk,rfl,hk,RO,GR,ND,ED⟩:=hrel
  have cB:=GR.out.cell HB.out (by simpa using hne)
  have et:=half_back k
  obtain ⟨m,hm⟩:∃ m,(k - 1) / 2=m:=⟨_,rfl⟩
  rw [hm] at et
  by_cases h0:k=0
  · have e0:((m:Int) == (k:Int))=true:=by simp;omega
    have hmk:m≤k:=by omega
    have hmk2:(m:Int)≤1000000:=by omega
    have HR:Hid (RowS base g c (siftUp j d) wr∧w.grownBy wr (some g)):=hidd ⟨by rw [← ED.out,h0,siftUp_zero];exact RO.out,GR.out⟩
    clear RO GR ED h0 hm
    go_wp2
    go_end0
    exact ⟨rfl,HR.out⟩
  · have e0:((m:Int) == (k:Int))=false:=by simp;omega
    have hmk:m < k:=by omega
    have HM:=hidd hm
    clear hm
    have mL:=n_less B o wr _ cB
    go_wp2_with fail
    cases hM:Sort.ltInt dk[m]! dk[k]!
    · have LB:=hidd (q_less g c n k m (i:=(k:Int)) (j:=(m:Int)) rfl rfl dk[k]! dk[m]! false wr (by omega) (by omega) (RO.out.at_ k (by have:=ND.out;omega)).1 (RO.out.at_ m (by have:=ND.out;omega)).1 hM)
      have ST:Hid (siftUp k dk=dk):=hidd (siftUp_stop (by rw [HM.out];exact hM))
      clear hM
      refine LB.out.mono ?_
      clear LB
      rintro e w3 ⟨rfl,b3⟩
      have HR:Hid (RowS base g c (siftUp j d) w3∧w.grownBy w3 (some g)):=hidd ⟨by rw [← ED.out,ST.out];exact RO.out.keep b3,grown_trans GR.out (grown_below _ b3)⟩
      clear ST RO GR b3
      go_wp2
      go_end0
      exact ⟨rfl,HR.out⟩
    · have LB:=hidd (q_less g c n k m (i:=(k:Int)) (j:=(m:Int)) rfl rfl dk[k]! dk[m]! true wr (by omega) (by omega) (RO.out.at_ k (by have:=ND.out;omega)).1 (RO.out.at_ m (by have:=ND.out;omega)).1 hM)
      have GO:Hid (siftUp k dk=siftUp m (Sort.swp dk m k)):=hidd (by rw [siftUp_go (by omega) (by rw [HM.out];exact hM),HM.out])
      clear hM
      refine LB.out.mono ?_
      clear LB
      rintro e w3 ⟨rfl,b3⟩
      have c3:=keepCell b3 cB
      have mS:=n_swap B o w3 _ c3
      have RO3:=hidd (RO.out.keep b3)
      have GR3:=hidd (grown_trans GR.out (grown_below _ b3))
      have SW:=hidd (q_swap base g c n (i:=(m:Int)) (j:=(k:Int)) m k rfl rfl dk w3 ND.out RO3.out (by omega) (by omega))
      clear RO GR cB b3
      go_wp2_with fail
      refine SW.out.mono ?_
      rintro e w5 ⟨rfl,h5,g5⟩
      have RO5:=hidd h5
      have GR5:=hidd (grown_trans GR3.out g5)
      have ND5:Hid ((Sort.swp dk m k).size=n):=hidd (by rw [Sort.size_swp];exact ND.out)
      have ED5:=hidd (GO.out.symm.trans ED.out)
      clear SW mS RO3 GR3 h5 g5 c3 GO
      go_wp2_with fail
      go_roundw
      case rel=>exact ⟨m,_,rfl,by omega,RO5,GR5,ND5,ED5⟩
      case measure=>simp [intOf];omega
end Go.Proofs.YtdklpgphmoaniabGreatDoor
