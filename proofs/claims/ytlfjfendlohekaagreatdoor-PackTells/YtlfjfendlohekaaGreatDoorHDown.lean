/-
  The library's heap over package pack's heap of words: its methods, called through the library's interface, and how one goes down and up; in whatever memory.
-/
import Derived.Test.YtlfjfendlohekaaGreatDoorS1C
import Derived.Sort.WalkB3
namespace Go.Proofs.YtlfjfendlohekaaGreatDoor
open Go.RowKit
theorem m_len (B:Nat) (w:World) (v:Value) (h:w.cell? ⟨B,0,none⟩=some v):(method 302 88 (.pointer (some ⟨B,0,none⟩)) "Len").run Tryz.prog w=.ok (171,v) w:=by
 have e:(method 302 88 (.pointer (some ⟨B,0,none⟩)) "Len").run Tryz.prog w=(Sem.load Mode.plain ⟨B,0,none⟩ (fun v=>Sem.pure (171,v))).run Tryz.prog w:=by kernel_rfl
 rw [e];simp [Sem.run,h]
theorem m_less (B:Nat) (w:World) (v:Value) (h:w.cell? ⟨B,0,none⟩=some v):(method 302 88 (.pointer (some ⟨B,0,none⟩)) "Less").run Tryz.prog w=.ok (172,v) w:=by
 have e:(method 302 88 (.pointer (some ⟨B,0,none⟩)) "Less").run Tryz.prog w=(Sem.load Mode.plain ⟨B,0,none⟩ (fun v=>Sem.pure (172,v))).run Tryz.prog w:=by kernel_rfl
 rw [e];simp [Sem.run,h]
theorem m_swap (B:Nat) (w:World) (v:Value) (h:w.cell? ⟨B,0,none⟩=some v):(method 302 88 (.pointer (some ⟨B,0,none⟩)) "Swap").run Tryz.prog w=.ok (173,v) w:=by
 have e:(method 302 88 (.pointer (some ⟨B,0,none⟩)) "Swap").run Tryz.prog w=(Sem.load Mode.plain ⟨B,0,none⟩ (fun v=>Sem.pure (173,v))).run Tryz.prog w:=by kernel_rfl
 rw [e];simp [Sem.run,h]
theorem m_push (B:Nat) (w:World):(method 302 88 (.pointer (some ⟨B,0,none⟩)) "Push").run Tryz.prog w=.ok (175,.pointer (some ⟨B,0,none⟩)) w:=by kernel_rfl
theorem m_pop (B:Nat) (w:World):(method 302 88 (.pointer (some ⟨B,0,none⟩)) "Pop").run Tryz.prog w=.ok (174,.pointer (some ⟨B,0,none⟩)) w:=by kernel_rfl
theorem f_len (p:Option Addr) (n c:Nat) (w:World):Calls Tryz.prog 171 #[.slice p n c] w fun e w'=>e=.returned (.int .i64 (n:Int))∧w'=w:=by
 go_enter Tryz.func171,Tryz.ntmps171
 go_wp2
 go_ret
 exact ⟨rfl,rfl⟩
set_option maxHeartbeats 4000000 in
set_option maxRecDepth 100000 in
theorem f_less (g c n i j:Nat) (x y:Int) (w:World) (hi:i < n) (hj:j < n) (cx:w.cell? ⟨g,i,none⟩=some (.int .u64 x)) (cy:w.cell? ⟨g,j,none⟩=some (.int .u64 y)) :
 Calls Tryz.prog 172 #[.slice (some ⟨g,0,none⟩) n c,.int .i64 i,.int .i64 j] w fun e w'=>e=.returned (.bool (Sort.ltInt y x))∧∃ q,w'=w.drewN q:=by
 have i1:(i:Int) < (n:Int):=by omega
 have j1:(j:Int) < (n:Int):=by omega
 go_enter Tryz.func172,Tryz.ntmps172
 go_wp2_with fail
 go_quiet (fail)
 go_wp2
 go_ret
 exact ⟨rfl,_,rfl⟩
set_option maxHeartbeats 4000000 in
set_option maxRecDepth 100000 in
theorem f_swap (g c n i j:Nat) (d:Array Int) (w:World) (hn:d.size=n) (hH:Sort.Holds (Value.int .u64) w g 0 d) (hg:g < w.heap.size) (hi:i < n) (hj:j < n) :
 Calls Tryz.prog 173 #[.slice (some ⟨g,0,none⟩) n c,.int .i64 i,.int .i64 j] w fun e w'=>e=.returned (.tuple #[])∧St w g 0 d (Sort.swp d i j) w':=by
 have i1:(i:Int) < (n:Int):=by omega
 have j1:(j:Int) < (n:Int):=by omega
 obtain ⟨G,hG,hc,hf⟩:=(St.refl hH).fam hH hg
 rw [hn] at hc hf
 have SW:=hid_mk ((St.refl hH).swap hH hg hG (j:=i) (k:=j) (by omega) (by omega) 0)
 obtain ⟨y3,hy3⟩:=cell?_setCell_some (w:=w) (p:=⟨g,0+i,none⟩) (x:=.int .u64 (G j)) (q:=⟨g,0+j,none⟩) (hc j (by omega))
 simp only [Nat.zero_add] at hc hf hy3 SW
 clear hG hH hn
 go_enter Tryz.func173,Tryz.ntmps173
 go_wp2_with fail
 go_region
 go_wp2_with fail
 go_end0
 exact ⟨rfl,SW.out.1,SW.out.2.ahead 1⟩
theorem st_cell {w w':World} {g:Nat} {d0 d:Array Int} {p:Addr} {v:Value} (h:St w g 0 d0 d w') (hc:w.cell? p=some v) (hp:p.block≠g):w'.cell? p=some v:=by
 have hl:=World.block_lt_of_cell? _ _ hc
 obtain ⟨n,os,rfl⟩:=h.2
 rw [World.cell?_of_block (w:=w) (a:=p) ?_]
 · exact hc
 · rw [Sort.heap_grow_old _ _ (by simp [Sort.putRow,Sort.mapBlock,Sort.ahead];exact hl)]
   show (w.heap.modify g _)[p.block]?=_
   rw [Array.getElem?_modify,if_neg (Ne.symm hp)]
theorem sd_end' {d:Array Int} {hi r:Nat} (h:hi≤2*r+1):Sort.siftDown Sort.ltInt hi 0 r d=d:=Sort.sd_end _ _ h
theorem sd_rs {d:Array Int} {hi r:Nat} (h:2*r+2 < hi) (h1:Sort.ltInt d[2*r+1]! d[2*r+2]! =true) (h2:Sort.ltInt d[r]! d[2*r+2]! =false):Sort.siftDown Sort.ltInt hi 0 r d=d:=by
 have:=Sort.sd_right_stop (lt:=Sort.ltInt) (hi:=hi) (F:=0) (root:=r) d h
 simp only [Nat.zero_add] at this
 exact this h1 h2
theorem sd_rg {d:Array Int} {hi r:Nat} (h:2*r+2 < hi) (h1:Sort.ltInt d[2*r+1]! d[2*r+2]! =true) (h2:Sort.ltInt d[r]! d[2*r+2]! =true):Sort.siftDown Sort.ltInt hi 0 r d=Sort.siftDown Sort.ltInt hi 0 (2*r+2) (Sort.swp d r (2*r+2)):=by
 have:=Sort.sd_right_go (lt:=Sort.ltInt) (hi:=hi) (F:=0) (root:=r) d h
 simp only [Nat.zero_add] at this
 exact this h1 h2
theorem sd_ls {d:Array Int} {hi r:Nat} (h:2*r+1 < hi) (h1:2*r+2 < hi→Sort.ltInt d[2*r+1]! d[2*r+2]! =false) (h2:Sort.ltInt d[r]! d[2*r+1]! =false):Sort.siftDown Sort.ltInt hi 0 r d=d:=by
 have:=Sort.sd_left_stop (lt:=Sort.ltInt) (hi:=hi) (F:=0) (root:=r) d h
 simp only [Nat.zero_add] at this
 exact this h1 h2
theorem sd_lg {d:Array Int} {hi r:Nat} (h:2*r+1 < hi) (h1:2*r+2 < hi→Sort.ltInt d[2*r+1]! d[2*r+2]! =false) (h2:Sort.ltInt d[r]! d[2*r+1]! =true):Sort.siftDown Sort.ltInt hi 0 r d=Sort.siftDown Sort.ltInt hi 0 (2*r+1) (Sort.swp d r (2*r+1)):=by
 have:=Sort.sd_left_go (lt:=Sort.ltInt) (hi:=hi) (F:=0) (root:=r) d h
 simp only [Nat.zero_add] at this
 exact this h1 h2
theorem f_less_at (g c n:Nat) {i j:Int} (ni nj:Nat) (ei:(ni:Int)=i) (ej:(nj:Int)=j) {x y:Int} (b:Bool) (w:World) (hi:ni < n) (hj:nj < n) (cx:w.cell? ⟨g,ni,none⟩=some (.int .u64 x)) (cy:w.cell? ⟨g,nj,none⟩=some (.int .u64 y)) (hb:Sort.ltInt y x=b) :
 Calls Tryz.prog 172 #[.slice (some ⟨g,0,none⟩) n c,.int .i64 i,.int .i64 j] w fun e w'=>e=.returned (.bool b)∧∃ q,w'=w.drewN q:=by
 subst ei ej hb
 exact f_less g c n ni nj x y w hi hj cx cy
theorem f_swap_at (g c n:Nat) {i j:Int} (ni nj:Nat) (ei:(ni:Int)=i) (ej:(nj:Int)=j) (d:Array Int) (w:World) (hn:d.size=n) (hH:Sort.Holds (Value.int .u64) w g 0 d) (hg:g < w.heap.size) (hi:ni < n) (hj:nj < n) :
 Calls Tryz.prog 173 #[.slice (some ⟨g,0,none⟩) n c,.int .i64 i,.int .i64 j] w fun e w'=>e=.returned (.tuple #[])∧St w g 0 d (Sort.swp d ni nj) w':=by
 subst ei ej
 exact f_swap g c n ni nj d w hn hH hg hi hj
set_option maxHeartbeats 8000000 in
set_option maxRecDepth 100000 in
theorem h_down (B g c n i hi:Nat) (d:Array Int) (hn:d.size=n) (w:World) (hB:w.cell? ⟨B,0,none⟩=some (.slice (some ⟨g,0,none⟩) n c)) (hne:B≠g) (hH:Sort.Holds (Value.int .u64) w g 0 d) (hg:g < w.heap.size) (hhi:hi≤n) (hsz:n≤1000000) (hi0:i≤hi) :
 Calls Tryz.prog 79 #[.iface 88 (.pointer (some ⟨B,0,none⟩)),.int .i64 i,.int .i64 hi] w fun e w'=>(∃ b,e=.returned (.bool b))∧St w g 0 d (Sort.siftDown Sort.ltInt hi 0 i d) w':=by
 have H0:Hid (Sort.Holds (Value.int .u64) w g 0 d):=hH
 have HN:Hid (d.size=n):=hn
 have HB:Hid _:=hB
 clear hH hn hB
 go_enter Tryz.func79,Tryz.ntmps79
 go_wp2_with fail
 go_loopw [7] (fun v7 wr=>∃ (r:Nat) (dk:Array Int),v7=.int .i64 r∧r≤hi∧Hid (St w g 0 d dk wr∧Sort.siftDown Sort.ltInt hi 0 r dk=Sort.siftDown Sort.ltInt hi 0 i d)) (fun v7 _=>hi - (intOf v7).toNat)
 case atStart=>exact ⟨i,d,rfl,hi0,St.refl H0.out,rfl⟩
 case round =>
  obtain ⟨r,dk,rfl,hr,hS⟩:=hrel
  have cB:=st_cell hS.out.1 HB.out hne
  by_cases h0:hi≤2*r+1
  · have e0:(hi:Int)≤2*(r:Int)+1:=by omega
    have HR:Hid (St w g 0 d (Sort.siftDown Sort.ltInt hi 0 i d) wr):=by
     refine hid_mk ?_
     rw [← hS.out.2,sd_end' h0];exact hS.out.1
    clear hS
    go_wp2
    go_ret
    exact ⟨⟨_,rfl⟩,HR.out⟩
  · have e0:decide ((hi:Int)≤2*(r:Int)+1)=false:=df (by omega)
    have e1:decide (2*(r:Int)+1 < 0)=false:=df (by omega)
    have hds:Hid (dk.size=n):=by refine hid_mk ?_;rw [hS.out.1.1,HN.out]
    have hh:=hS.out.1.hold H0.out hg
    have HH:=hid_mk hh
    obtain ⟨G,hG,hcw,-⟩:=hS.out.1.fam H0.out hg
    rw [HN.out] at hcw
    simp only [Nat.zero_add] at hcw
    have HG:Hid (∀ t,G t=dk[t]!):=hG
    have CW:Hid _:=hcw
    have SS:=hid_mk hS.out.1
    have ED:=hid_mk hS.out.2
    clear hG hcw hh hS
    have mL:=m_less B wr _ cB
    by_cases h1:2*r+2 < hi
    · have e2:2*(r:Int)+1+1 < (hi:Int):=by omega
      cases hL:Sort.ltInt (G (2*r+1)) (G (2*r+2))
      · have LA:=hid_mk (f_less_at g c n (2*r+2) (2*r+1) (i:=2*(r:Int)+1+1) (j:=2*(r:Int)+1) (by omega) (by omega) false wr (by omega) (by omega) (CW.out _ (by omega)) (CW.out _ (by omega)) hL)
        go_wp2_with fail
        refine LA.out.mono ?_
        rintro e w2 ⟨rfl,q2,rfl⟩
        have S2:=hid_mk (SS.out.drawn q2)
        have C2:Hid (∀ t,t < n→(wr.drewN q2).cell? ⟨g,t,none⟩=some (.int .u64 (G t))):=CW
        have H2:Hid (Sort.Holds (Value.int .u64) (wr.drewN q2) g 0 dk∧g < (wr.drewN q2).heap.size):=HH
        have cB2:(wr.drewN q2).cell? ⟨B,0,none⟩=some (.slice (some ⟨g,0,none⟩) n c):=cB
        clear LA mL SS CW HH cB
        generalize wr.drewN q2=wr2 at *
        have SS:=S2
        have CW:=C2
        have HH:=H2
        have cB:=cB2
        clear S2 C2 H2 cB2
        have mL:=m_less B wr2 _ cB
        go_wp2_with fail
        cases hM:Sort.ltInt (G r) (G (2*r+1))
        · have LB:=hid_mk (f_less_at g c n (2*r+1) r (i:=2*(r:Int)+1) (j:=(r:Int)) (by omega) rfl false wr2 (by omega) (by omega) (CW.out (2*r+1) (by omega)) (CW.out r (by omega)) hM)
          refine LB.out.mono ?_
          clear LB
          rintro e w3 ⟨rfl,q3,rfl⟩
          have HR:=hid_mk (show St w g 0 d (Sort.siftDown Sort.ltInt hi 0 i d) (wr2.drewN q3) by rw [← ED.out,sd_ls (by omega) (fun _=>by rw [← HG.out,← HG.out];exact hL) (by rw [← HG.out,← HG.out];exact hM)];exact SS.out.drawn q3)
          clear SS CW HH hM
          go_wp2
          go_ret
          exact ⟨⟨_,rfl⟩,HR.out⟩
        · have LB:=hid_mk (f_less_at g c n (2*r+1) r (i:=2*(r:Int)+1) (j:=(r:Int)) (by omega) rfl true wr2 (by omega) (by omega) (CW.out (2*r+1) (by omega)) (CW.out r (by omega)) hM)
          refine LB.out.mono ?_
          clear LB
          rintro e w3 ⟨rfl,q3,rfl⟩
          have mS:=m_swap B (wr2.drewN q3) _ cB
          have S3:=hid_mk (SS.out.drawn q3)
          have SW:=hid_mk (f_swap_at g c n r (2*r+1) (i:=(r:Int)) (j:=2*(r:Int)+1) rfl (by omega) dk (wr2.drewN q3) hds.out (S3.out.hold H0.out hg).1 (S3.out.hold H0.out hg).2 (by omega) (by omega))
          have GO:Hid (Sort.siftDown Sort.ltInt hi 0 r dk=Sort.siftDown Sort.ltInt hi 0 (2*r+1) (Sort.swp dk r (2*r+1))):=hid_mk (sd_lg (by omega) (fun _=>by rw [← HG.out,← HG.out];exact hL) (by rw [← HG.out,← HG.out];exact hM))
          clear SS CW HH hM
          generalize wr2.drewN q3=w4 at *
          go_wp2_with fail
          refine SW.out.mono ?_
          rintro e w5 ⟨rfl,h5⟩
          have S5:=hid_mk (S3.out.trans hg h5)
          clear h5 SW S3 mS
          go_wp2_with fail
          go_roundw
          case rel=>exact ⟨2*r+1,_,by congr 1 <;>omega,by omega,S5.out,by rw [← GO.out];exact ED.out⟩
          case measure=>simp [intOf];omega
      · have LA:=hid_mk (f_less_at g c n (2*r+2) (2*r+1) (i:=2*(r:Int)+1+1) (j:=2*(r:Int)+1) (by omega) (by omega) true wr (by omega) (by omega) (CW.out _ (by omega)) (CW.out _ (by omega)) hL)
        go_wp2_with fail
        refine LA.out.mono ?_
        rintro e w2 ⟨rfl,q2,rfl⟩
        have S2:=hid_mk (SS.out.drawn q2)
        have C2:Hid (∀ t,t < n→(wr.drewN q2).cell? ⟨g,t,none⟩=some (.int .u64 (G t))):=CW
        have H2:Hid (Sort.Holds (Value.int .u64) (wr.drewN q2) g 0 dk∧g < (wr.drewN q2).heap.size):=HH
        have cB2:(wr.drewN q2).cell? ⟨B,0,none⟩=some (.slice (some ⟨g,0,none⟩) n c):=cB
        clear LA mL SS CW HH cB
        generalize wr.drewN q2=wr2 at *
        have SS:=S2
        have CW:=C2
        have HH:=H2
        have cB:=cB2
        clear S2 C2 H2 cB2
        have mL:=m_less B wr2 _ cB
        go_wp2_with fail
        cases hM:Sort.ltInt (G r) (G (2*r+2))
        · have LB:=hid_mk (f_less_at g c n (2*r+2) r (i:=2*(r:Int)+1+1) (j:=(r:Int)) (by omega) rfl false wr2 (by omega) (by omega) (CW.out (2*r+2) (by omega)) (CW.out r (by omega)) hM)
          refine LB.out.mono ?_
          clear LB
          rintro e w3 ⟨rfl,q3,rfl⟩
          have HR:=hid_mk (show St w g 0 d (Sort.siftDown Sort.ltInt hi 0 i d) (wr2.drewN q3) by rw [← ED.out,sd_rs h1 (by rw [← HG.out,← HG.out];exact hL) (by rw [← HG.out,← HG.out];exact hM)];exact SS.out.drawn q3)
          clear SS CW HH hM
          go_wp2
          go_ret
          exact ⟨⟨_,rfl⟩,HR.out⟩
        · have LB:=hid_mk (f_less_at g c n (2*r+2) r (i:=2*(r:Int)+1+1) (j:=(r:Int)) (by omega) rfl true wr2 (by omega) (by omega) (CW.out (2*r+2) (by omega)) (CW.out r (by omega)) hM)
          refine LB.out.mono ?_
          clear LB
          rintro e w3 ⟨rfl,q3,rfl⟩
          have mS:=m_swap B (wr2.drewN q3) _ cB
          have S3:=hid_mk (SS.out.drawn q3)
          have SW:=hid_mk (f_swap_at g c n r (2*r+2) (i:=(r:Int)) (j:=2*(r:Int)+1+1) rfl (by omega) dk (wr2.drewN q3) hds.out (S3.out.hold H0.out hg).1 (S3.out.hold H0.out hg).2 (by omega) (by omega))
          have GO:Hid (Sort.siftDown Sort.ltInt hi 0 r dk=Sort.siftDown Sort.ltInt hi 0 (2*r+2) (Sort.swp dk r (2*r+2))):=hid_mk (sd_rg h1 (by rw [← HG.out,← HG.out];exact hL) (by rw [← HG.out,← HG.out];exact hM))
          clear SS CW HH hM
          generalize wr2.drewN q3=w4 at *
          go_wp2_with fail
          refine SW.out.mono ?_
          rintro e w5 ⟨rfl,h5⟩
          have S5:=hid_mk (S3.out.trans hg h5)
          clear h5 SW S3 mS
          go_wp2_with fail
          go_roundw
          case rel=>exact ⟨2*r+2,_,by congr 1 <;>omega,by omega,S5.out,by rw [← GO.out];exact ED.out⟩
          case measure=>simp [intOf];omega
    · have e2:decide (2*(r:Int)+1+1 < (hi:Int))=false:=df (by omega)
      go_wp2_with fail
      cases hM:Sort.ltInt (G r) (G (2*r+1))
      · have LB:=hid_mk (f_less_at g c n (2*r+1) r (i:=2*(r:Int)+1) (j:=(r:Int)) (by omega) rfl false wr (by omega) (by omega) (CW.out (2*r+1) (by omega)) (CW.out r (by omega)) hM)
        refine LB.out.mono ?_
        clear LB
        rintro e w3 ⟨rfl,q3,rfl⟩
        have HR:=hid_mk (show St w g 0 d (Sort.siftDown Sort.ltInt hi 0 i d) (wr.drewN q3) by rw [← ED.out,sd_ls (by omega) (fun h=>absurd h h1) (by rw [← HG.out,← HG.out];exact hM)];exact SS.out.drawn q3)
        clear SS CW HH hM
        go_wp2
        go_ret
        exact ⟨⟨_,rfl⟩,HR.out⟩
      · have LB:=hid_mk (f_less_at g c n (2*r+1) r (i:=2*(r:Int)+1) (j:=(r:Int)) (by omega) rfl true wr (by omega) (by omega) (CW.out (2*r+1) (by omega)) (CW.out r (by omega)) hM)
        refine LB.out.mono ?_
        clear LB
        rintro e w3 ⟨rfl,q3,rfl⟩
        have mS:=m_swap B (wr.drewN q3) _ cB
        have S3:=hid_mk (SS.out.drawn q3)
        have SW:=hid_mk (f_swap_at g c n r (2*r+1) (i:=(r:Int)) (j:=2*(r:Int)+1) rfl (by omega) dk (wr.drewN q3) hds.out (S3.out.hold H0.out hg).1 (S3.out.hold H0.out hg).2 (by omega) (by omega))
        have GO:Hid (Sort.siftDown Sort.ltInt hi 0 r dk=Sort.siftDown Sort.ltInt hi 0 (2*r+1) (Sort.swp dk r (2*r+1))):=hid_mk (sd_lg (by omega) (fun h=>absurd h h1) (by rw [← HG.out,← HG.out];exact hM))
        clear SS CW HH hM
        generalize wr.drewN q3=w4 at *
        go_wp2_with fail
        refine SW.out.mono ?_
        rintro e w5 ⟨rfl,h5⟩
        have S5:=hid_mk (S3.out.trans hg h5)
        clear h5 SW S3 mS
        go_wp2_with fail
        go_roundw
        case rel=>exact ⟨2*r+1,_,by congr 1 <;>omega,by omega,S5.out,by rw [← GO.out];exact ED.out⟩
        case measure=>simp [intOf];omega
end Go.Proofs.YtlfjfendlohekaaGreatDoor
