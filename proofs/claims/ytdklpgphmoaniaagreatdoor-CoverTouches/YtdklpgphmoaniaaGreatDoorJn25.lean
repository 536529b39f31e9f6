/-
  Which of two spots comes first, as package cover tells; in whatever memory.
-/
import Derived.Test.YtdklpgphmoaniaaGreatDoorJn24
namespace Go.Proofs.YtdklpgphmoaniaaGreatDoor
open Go.RowKit
def spA (x:Int):Value:=.agg #[.int .i64 (sp0 x),.int .i64 (sp1 x),.int .i64 (sp2 x)]
set_option maxHeartbeats 4000000 in
set_option maxRecDepth 100000 in
theorem c_compare_core (x0 x1 x2 y0 y1 y2 p q r Z:Int) (hZ:orG (threeG p q r)=Z) (C0:Hid (∀ w,Calls Tryz.prog 202 #[.int .i64 x0,.int .i64 y0] w fun e w'=>e=.returned (.int .i64 p)∧w'=w)) (C1:Hid (∀ w,Calls Tryz.prog 202 #[.int .i64 x1,.int .i64 y1] w fun e w'=>e=.returned (.int .i64 q)∧w'=w)) (C2:Hid (∀ w,Calls Tryz.prog 202 #[.int .i64 x2,.int .i64 y2] w fun e w'=>e=.returned (.int .i64 r)∧w'=w)) (w:World) :
 Calls Tryz.prog 200 #[.agg #[.int .i64 x0,.int .i64 x1,.int .i64 x2],.agg #[.int .i64 y0,.int .i64 y1,.int .i64 y2]] w fun e w'=>e=.returned (.int .i64 Z)∧Below w.heap.size w w':=by
 have OR:=hidd fun g c w h0 h1 h2=>c_or3 g c p q r Z hZ w h0 h1 h2
 clear hZ
 go_enter Tryz.func200,Tryz.ntmps200
 go_wp2_with fail
 have al:=belowT (allocB w (.cells #[.int .i64 x0,.int .i64 x1,.int .i64 x2] 188)) (allocB (w.alloc (.cells #[.int .i64 x0,.int .i64 x1,.int .i64 x2] 188)) (.cells #[.int .i64 y0,.int .i64 y1,.int .i64 y2] 188))
 have a0:((w.alloc (.cells #[.int .i64 x0,.int .i64 x1,.int .i64 x2] 188)).alloc (.cells #[.int .i64 y0,.int .i64 y1,.int .i64 y2] 188)).cell? ⟨w.heap.size,0,none⟩=some (.int .i64 x0):=by go_simp
 have a1:((w.alloc (.cells #[.int .i64 x0,.int .i64 x1,.int .i64 x2] 188)).alloc (.cells #[.int .i64 y0,.int .i64 y1,.int .i64 y2] 188)).cell? ⟨w.heap.size,1,none⟩=some (.int .i64 x1):=by go_simp
 have a2:((w.alloc (.cells #[.int .i64 x0,.int .i64 x1,.int .i64 x2] 188)).alloc (.cells #[.int .i64 y0,.int .i64 y1,.int .i64 y2] 188)).cell? ⟨w.heap.size,2,none⟩=some (.int .i64 x2):=by go_simp
 have b0:((w.alloc (.cells #[.int .i64 x0,.int .i64 x1,.int .i64 x2] 188)).alloc (.cells #[.int .i64 y0,.int .i64 y1,.int .i64 y2] 188)).cell? ⟨w.heap.size+1,0,none⟩=some (.int .i64 y0):=by go_simp
 have b1:((w.alloc (.cells #[.int .i64 x0,.int .i64 x1,.int .i64 x2] 188)).alloc (.cells #[.int .i64 y0,.int .i64 y1,.int .i64 y2] 188)).cell? ⟨w.heap.size+1,1,none⟩=some (.int .i64 y1):=by go_simp
 have b2:((w.alloc (.cells #[.int .i64 x0,.int .i64 x1,.int .i64 x2] 188)).alloc (.cells #[.int .i64 y0,.int .i64 y1,.int .i64 y2] 188)).cell? ⟨w.heap.size+1,2,none⟩=some (.int .i64 y2):=by go_simp
 generalize (w.alloc (.cells #[.int .i64 x0,.int .i64 x1,.int .i64 x2] 188)).alloc (.cells #[.int .i64 y0,.int .i64 y1,.int .i64 y2] 188)=W2 at *
 have hS0:=keepSixQ (drewB W2) ⟨a0,a1,a2,b0,b1,b2,al⟩
 go_region_held3 (fun w'=>w'.cell? ⟨w.heap.size,0,none⟩=some (.int .i64 x0)∧w'.cell? ⟨w.heap.size,1,none⟩=some (.int .i64 x1)∧w'.cell? ⟨w.heap.size,2,none⟩=some (.int .i64 x2)∧w'.cell? ⟨w.heap.size+1,0,none⟩=some (.int .i64 y0)∧w'.cell? ⟨w.heap.size+1,1,none⟩=some (.int .i64 y1)∧w'.cell? ⟨w.heap.size+1,2,none⟩=some (.int .i64 y2)∧Below w.heap.size w w') (first | exact hS0 | assumption | exact keepSixQ (allocB _ _) (by assumption))
  (first | (go_at_call 202;(first | with_reducible refine (C0.out _).mono ?_ | with_reducible refine (C1.out _).mono ?_ | with_reducible refine (C2.out _).mono ?_);rintro e w' ⟨rfl,rfl⟩) | (go_at_call 201;refine (OR.out _ _ _ (by go_simp) (by go_simp) (by go_simp)).mono ?_;rintro e w' ⟨rfl,rfl⟩))
 go_wp2
 go_ret
 rename_i hS
 exact ⟨rfl,hS.2.2.2.2.2.2⟩
theorem c_compare (x y:Int) (w:World):Calls Tryz.prog 200 #[spA x,spA y] w fun e w'=>e=.returned (.int .i64 (cmpS x y))∧Below w.heap.size w w' :=
 c_compare_core _ _ _ _ _ _ _ _ _ _ (cmpS_or x y) (hidd fun w=>c_cmp _ _ w) (hidd fun w=>c_cmp _ _ w) (hidd fun w=>c_cmp _ _ w) w
def RowS (base g c:Nat) (d:Array Int) (w:World):Prop:=w.ownsRow base 188 3 (.slice (some ⟨g,0,none⟩) d.size c) d.size (flat d.toList)
theorem RowS.lt {base g c:Nat} {d:Array Int} {w:World} (h:RowS base g c d w):base≤g∧g < w.heap.size:=World.ownsRow.lt h g rfl
theorem rowS_at {base g c n:Nat} {L:List Int} {w:World} (h:w.ownsRow base 188 3 (.slice (some ⟨g,0,none⟩) n c) n (flat L)) (i:Nat) (hi:i < L.length) :
 (w.cell? ⟨g,i*3,none⟩=some (.int .i64 (sp0 L[i]))∧w.cell? ⟨g,i*3+1,none⟩=some (.int .i64 (sp1 L[i]))∧w.cell? ⟨g,i*3+2,none⟩=some (.int .i64 (sp2 L[i]))) ∧
   w.frozen? ⟨g,i*3,none⟩=false∧w.frozen? ⟨g,i*3+1,none⟩=false∧w.frozen? ⟨g,i*3+2,none⟩=false:=by
 have f:=flat_at L i hi
 have hl:L.length*3=n*3:=by rw [← flat_len];exact h.1
 have c:=fun j hj=>World.ownsRow.cellAt h j hj
 exact ⟨⟨(c _ (by omega)).trans f.1,(c _ (by omega)).trans f.2.1,(c _ (by omega)).trans f.2.2⟩,World.ownsRow.frozenAt h _,World.ownsRow.frozenAt h _,World.ownsRow.frozenAt h _⟩
theorem RowS.at_ {base g c:Nat} {d:Array Int} {w:World} (h:RowS base g c d w) (i:Nat) (hi:i < d.size) :
 (w.cell? ⟨g,i*3,none⟩=some (.int .i64 (sp0 d[i]!))∧w.cell? ⟨g,i*3+1,none⟩=some (.int .i64 (sp1 d[i]!))∧w.cell? ⟨g,i*3+2,none⟩=some (.int .i64 (sp2 d[i]!))) ∧
   w.frozen? ⟨g,i*3,none⟩=false∧w.frozen? ⟨g,i*3+1,none⟩=false∧w.frozen? ⟨g,i*3+2,none⟩=false:=by
 have e:d.toList[i]'(by simpa using hi)=d[i]! :=by rw [getElem!_pos d i hi];simp
 rw [← e]
 exact rowS_at h i (by simpa using hi)
theorem grown_refl (w:World) (r:Option Nat):w.grownBy w r:=⟨rfl,rfl,rfl,Nat.le_refl _,fun _ _ _=>rfl⟩
theorem grown_trans {u v w:World} {r:Option Nat} (h:u.grownBy v r) (k:v.grownBy w r):u.grownBy w r :=
 ⟨k.os.trans h.os,k.tape.trans h.tape,k.output.trans h.output,Nat.le_trans h.size k.size,fun i hi hn=>(k.block i (Nat.lt_of_lt_of_le hi h.size) hn).trans (h.block i hi hn)⟩
theorem grown_below {w w':World} (r:Option Nat) (h:Below w.heap.size w w'):w.grownBy w' r:=⟨h.os,h.tape,h.output,h.size,fun k hk _=>h.block k hk⟩
theorem RowS.keep {base g c:Nat} {d:Array Int} {w w':World} (h:RowS base g c d w) (hb:Below w.heap.size w w'):RowS base g c d w':=own_keep hb h
theorem RowS.put {base g c n:Nat} {L:List Int} {w:World} (h:w.ownsRow base 188 3 (.slice (some ⟨g,0,none⟩) n c) n (flat L)) (i:Nat) (x:Int) :
 (((w.setCell ⟨g,i*3,none⟩ (.int .i64 (sp0 x))).setCell ⟨g,i*3+1,none⟩ (.int .i64 (sp1 x))).setCell ⟨g,i*3+2,none⟩ (.int .i64 (sp2 x))).ownsRow base 188 3 (.slice (some ⟨g,0,none⟩) n c) n (flat (L.set i x)) ∧
 w.grownBy (((w.setCell ⟨g,i*3,none⟩ (.int .i64 (sp0 x))).setCell ⟨g,i*3+1,none⟩ (.int .i64 (sp1 x))).setCell ⟨g,i*3+2,none⟩ (.int .i64 (sp2 x))) (some g):=by
 have s1:=World.ownsRow.stored h (i*3) (.int .i64 (sp0 x))
 have s2:=World.ownsRow.stored s1.1 (i*3+1) (.int .i64 (sp1 x))
 have s3:=World.ownsRow.stored s2.1 (i*3+2) (.int .i64 (sp2 x))
 rw [flat_set] at s3
 exact ⟨s3.1,grown_trans (grown_trans s1.2 s2.2) s3.2⟩
set_option maxHeartbeats 4000000 in
set_option maxRecDepth 100000 in
theorem q_swap (base g c n:Nat) {i j:Int} (ni nj:Nat) (ei:(ni:Int)=i) (ej:(nj:Int)=j) (d:Array Int) (w:World) (hn:d.size=n) (h:RowS base g c d w) (hi:ni < n) (hj:nj < n) :
 Calls Tryz.prog 199 #[.slice (some ⟨g,0,none⟩) n c,.int .i64 i,.int .i64 j] w fun e w'=>e=.returned (.tuple #[])∧RowS base g c (Sort.swp d ni nj) w'∧w.grownBy w' (some g):=by
 subst ei ej
 have i1:(ni:Int) < (n:Int):=by omega
 have j1:(nj:Int) < (n:Int):=by omega
 have HH:=hidd h
 have HN:=hidd hn
 obtain ⟨X,eX⟩:∃ X,d[ni]! =X:=⟨_,rfl⟩
 obtain ⟨Y,eY⟩:∃ Y,d[nj]! =Y:=⟨_,rfl⟩
 have hX:=h.at_ ni (by omega)
 have hY:=h.at_ nj (by omega)
 rw [eX] at hX
 rw [eY] at hY
 obtain ⟨⟨a0,a1,a2⟩,p0,p1,p2⟩:=hX
 obtain ⟨⟨b0,b1,b2⟩,r0,r1,r2⟩:=hY
 have P1:=RowS.put (n:=n) (by rw [← hn];exact h) ni Y
 have P2:=hidd (RowS.put P1.1 nj X)
 obtain ⟨⟨q0,q1,q2⟩,-⟩:=rowS_at P1.1 nj (by rw [List.length_set];simp;omega)
 have G1:=hidd P1.2
 have EX:=hidd eX
 have EY:=hidd eY
 generalize (d.toList.set ni Y)[nj]'_=z at *
 clear h P1 eX eY hn
 go_enter Tryz.func199,Tryz.ntmps199
 go_wp2_with fail
 go_region
 go_wp2_with fail
 go_end0
 refine ⟨rfl,RowS.keep ?_ (drewB _),grown_trans (grown_trans G1.out P2.out.2) (grown_below _ (drewB _))⟩
 unfold RowS
 rw [swp_list,Sort.size_swp,HN.out,EX.out,EY.out]
 exact P2.out.1
set_option maxHeartbeats 4000000 in
set_option maxRecDepth 100000 in
theorem q_less (g c n:Nat) {i j:Int} (ni nj:Nat) (ei:(ni:Int)=i) (ej:(nj:Int)=j) (x y:Int) (b:Bool) (w:World) (hi:ni < n) (hj:nj < n)
 (hx:w.cell? ⟨g,ni*3,none⟩=some (.int .i64 (sp0 x))∧w.cell? ⟨g,ni*3+1,none⟩=some (.int .i64 (sp1 x))∧w.cell? ⟨g,ni*3+2,none⟩=some (.int .i64 (sp2 x)))
 (hy:w.cell? ⟨g,nj*3,none⟩=some (.int .i64 (sp0 y))∧w.cell? ⟨g,nj*3+1,none⟩=some (.int .i64 (sp1 y))∧w.cell? ⟨g,nj*3+2,none⟩=some (.int .i64 (sp2 y))) (hb:Sort.ltInt y x=b) :
 Calls Tryz.prog 198 #[.slice (some ⟨g,0,none⟩) n c,.int .i64 i,.int .i64 j] w fun e w'=>e=.returned (.bool b)∧Below w.heap.size w w':=by
 subst ei ej
 have i1:(ni:Int) < (n:Int):=by omega
 have j1:(nj:Int) < (n:Int):=by omega
 obtain ⟨x0,x1,x2⟩:=hx
 obtain ⟨y0,y1,y2⟩:=hy
 have hd:=(cmpS_lt x y).trans hb
 have CC:=hidd fun w=>c_compare x y w
 unfold spA at CC
 have hS0:=keepSixQ (drewB w) ⟨x0,x1,x2,y0,y1,y2,Below.refl _ _⟩
 go_enter Tryz.func198,Tryz.ntmps198
 go_wp2_with fail
 go_region_held3 (fun w'=>w'.cell? ⟨g,ni*3,none⟩=some (.int .i64 (sp0 x))∧w'.cell? ⟨g,ni*3+1,none⟩=some (.int .i64 (sp1 x))∧w'.cell? ⟨g,ni*3+2,none⟩=some (.int .i64 (sp2 x))∧w'.cell? ⟨g,nj*3,none⟩=some (.int .i64 (sp0 y))∧w'.cell? ⟨g,nj*3+1,none⟩=some (.int .i64 (sp1 y))∧w'.cell? ⟨g,nj*3+2,none⟩=some (.int .i64 (sp2 y))∧Below w.heap.size w w') (first | exact hS0 | assumption | exact keepSixQ (by assumption) (by assumption))
  (first | (go_at_call 200;refine (CC.out _).mono ?_;rintro e w' ⟨rfl,hb⟩))
 go_wp2
 go_ret
 rename_i hS
 exact ⟨by rw [← hd];rfl,hS.2.2.2.2.2.2⟩
theorem n_len (B o:Nat) (w:World) (v:Value) (h:w.cell? ⟨B,o,none⟩=some v):(method 353 186 (.pointer (some ⟨B,o,none⟩)) "Len").run Tryz.prog w=.ok (197,v) w:=by
 have e:(method 353 186 (.pointer (some ⟨B,o,none⟩)) "Len").run Tryz.prog w=(Sem.load Mode.plain ⟨B,o,none⟩ (fun v=>Sem.pure (197,v))).run Tryz.prog w:=by kernel_rfl
 rw [e];simp [Sem.run,h]
theorem n_less (B o:Nat) (w:World) (v:Value) (h:w.cell? ⟨B,o,none⟩=some v):(method 353 186 (.pointer (some ⟨B,o,none⟩)) "Less").run Tryz.prog w=.ok (198,v) w:=by
 have e:(method 353 186 (.pointer (some ⟨B,o,none⟩)) "Less").run Tryz.prog w=(Sem.load Mode.plain ⟨B,o,none⟩ (fun v=>Sem.pure (198,v))).run Tryz.prog w:=by kernel_rfl
 rw [e];simp [Sem.run,h]
theorem n_swap (B o:Nat) (w:World) (v:Value) (h:w.cell? ⟨B,o,none⟩=some v):(method 353 186 (.pointer (some ⟨B,o,none⟩)) "Swap").run Tryz.prog w=.ok (199,v) w:=by
 have e:(method 353 186 (.pointer (some ⟨B,o,none⟩)) "Swap").run Tryz.prog w=(Sem.load Mode.plain ⟨B,o,none⟩ (fun v=>Sem.pure (199,v))).run Tryz.prog w:=by kernel_rfl
 rw [e];simp [Sem.run,h]
theorem n_push (B o:Nat) (w:World):(method 353 186 (.pointer (some ⟨B,o,none⟩)) "Push").run Tryz.prog w=.ok (205,.pointer (some ⟨B,o,none⟩)) w:=by kernel_rfl
theorem n_pop (B o:Nat) (w:World):(method 353 186 (.pointer (some ⟨B,o,none⟩)) "Pop").run Tryz.prog w=.ok (204,.pointer (some ⟨B,o,none⟩)) w:=by kernel_rfl
theorem q_len (v:Value) (n:Nat) (hv:∃ p c,v=.slice p n c) (w:World):Calls Tryz.prog 197 #[v] w fun e w'=>e=.returned (.int .i64 (n:Int))∧w'=w:=by
 obtain ⟨p,c,rfl⟩:=hv
 go_enter Tryz.func197,Tryz.ntmps197
 go_wp2
 go_ret
 exact ⟨rfl,rfl⟩
theorem sd_end' {d:Array Int} {hi r:Nat} (h:hi≤2*r+1):Sort.siftDown Sort.ltInt hi 0 r d=d:=Sort.sd_end _ _ h
theorem sd_rs {d:Array Int} {hi r:Nat} (h:2*r+2 < hi) (h1:Sort.ltInt d[2*r+1]! d[2*r+2]! =true) (h2:Sort.ltInt d[r]! d[2*r+2]! =false):Sort.siftDown Sort.ltInt hi 0 r d=d:=by
 have:=Sort.sd_right_stop (lt:=Sort.ltInt) (hi:=hi) (F:=0) (root:=r) d h
 simp only [Nat.zero_add] at this
 exact this h1 h2
theorem sd_rg {d:Array Int} {hi r:Nat} (h:2*r+2 < hi) (h1:Sort.ltInt d[2*r+1]! d[2*r+2]! =true) (h2:Sort.ltInt d[r]! d[2*r+2]! =true):Sort.siftDown Sort.ltInt hi 0 r d=Sort.siftDown Sort.ltInt hi 0 (2*r+2) (Sort.swp d r (2*r+2)):=by
 have:=Sort.sd_right_go (lt:=Sort.ltInt) (hi:=hi) (F:=0) (root:=r) d h
 simp only [Nat.zero_add] at this
 exact this h1 h2
theorem sd_ls {d:Array Int} {hi r:Nat} (h:2*r+1 < hi) (h1:2*r+2 < hi→Sort.ltInt d[2*r+1]! d[2*r+2]! =false) (h2:Sort.ltInt d[r]! d[2*r+1]! =false):Sort.siftDown Sort.ltInt hi 0 r d=d:=by
 have:=Sort.sd_left_stop (lt:=Sort.ltInt) (hi:=hi) (F:=0) (root:=r) d h
 simp only [Nat.zero_add] at this
 exact this h1 h2
theorem sd_lg {d:Array Int} {hi r:Nat} (h:2*r+1 < hi) (h1:2*r+2 < hi→Sort.ltInt d[2*r+1]! d[2*r+2]! =false) (h2:Sort.ltInt d[r]! d[2*r+1]! =true):Sort.siftDown Sort.ltInt hi 0 r d=Sort.siftDown Sort.ltInt hi 0 (2*r+1) (Sort.swp d r (2*r+1)):=by
 have:=Sort.sd_left_go (lt:=Sort.ltInt) (hi:=hi) (F:=0) (root:=r) d h
 simp only [Nat.zero_add] at this
 exact this h1 h2
set_option maxHeartbeats 8000000 in
set_option maxRecDepth 100000 in
theorem n_down (B o base g c n i hi:Nat) (d:Array Int) (hn:d.size=n) (w:World) (hB:w.cell? ⟨B,o,none⟩=some (.slice (some ⟨g,0,none⟩) n c)) (hne:B≠g) (hH:RowS base g c d w) (hhi:hi≤n) (hsz:n≤1000000) (hi0:i≤hi) :
 Calls Tryz.prog 177 #[.iface 186 (.pointer (some ⟨B,o,none⟩)),.int .i64 i,.int .i64 hi] w fun e w'=>(∃ b,e=.returned (.bool b))∧RowS base g c (Sort.siftDown Sort.ltInt hi 0 i d) w'∧w.grownBy w' (some g):=by
 have H0:=hidd hH
 have HN:=hidd hn
 have HB:=hidd hB
 clear hH hn hB
 go_enter Tryz.func177,Tryz.ntmps177
 go_wp2_with fail
 go_loopw [7] (fun v7 wr=>∃ (r:Nat) (dk:Array Int),v7=.int .i64 r∧r≤hi∧Hid (RowS base g c dk wr)∧Hid (w.grownBy wr (some g))∧Hid (dk.size=n)∧Hid (Sort.siftDown Sort.ltInt hi 0 r dk=Sort.siftDown Sort.ltInt hi 0 i d)) (fun v7 _=>hi - (intOf v7).toNat)
 case atStart=>exact ⟨i,d,rfl,hi0,H0,hidd (grown_refl _ _),HN,hidd rfl⟩
 case round =>
  obtain ⟨r,dk,rfl,hr,RO,GR,ND,ED⟩:=hrel
  have cB:=GR.out.cell HB.out (by simpa using hne)
  by_cases h0:hi≤2*r+1
  · have e0:(hi:Int)≤2*(r:Int)+1:=by omega
    have HR:Hid (RowS base g c (Sort.siftDown Sort.ltInt hi 0 i d) wr∧w.grownBy wr (some g)):=hidd ⟨by rw [← ED.out,sd_end' h0];exact RO.out,GR.out⟩
    clear RO GR ED
    go_wp2
    go_ret
    exact ⟨⟨_,rfl⟩,HR.out⟩
  · have e0:decide ((hi:Int)≤2*(r:Int)+1)=false:=df (by omega)
    have e1:decide (2*(r:Int)+1 < 0)=false:=df (by omega)
    have mL:=n_less B o wr _ cB
    by_cases h1:2*r+2 < hi
    · have e2:2*(r:Int)+1+1 < (hi:Int):=by omega
      cases hL:Sort.ltInt dk[2*r+1]! dk[2*r+2]!
      · have LA:=hidd (q_less g c n (2*r+2) (2*r+1) (i:=2*(r:Int)+1+1) (j:=2*(r:Int)+1) (by omega) (by omega) dk[2*r+2]! dk[2*r+1]! false wr (by omega) (by omega) (RO.out.at_ (2*r+2) (by have:=ND.out;omega)).1 (RO.out.at_ (2*r+1) (by have:=ND.out;omega)).1 hL)
        have FL:=hidd hL
        clear hL
        go_wp2_with fail
        refine LA.out.mono ?_
        rintro e w2 ⟨rfl,b2⟩
        replace cB:=keepCell b2 cB
        replace RO:=hidd (RO.out.keep b2)
        replace GR:=hidd (grown_trans GR.out (grown_below _ b2))
        clear LA mL b2
        have mL:=n_less B o w2 _ cB
        go_wp2_with fail
        cases hM:Sort.ltInt dk[r]! dk[2*r+1]!
        · have LB:=hidd (q_less g c n (2*r+1) (r) (i:=2*(r:Int)+1) (j:=(r:Int)) (by omega) rfl dk[2*r+1]! dk[r]! false w2 (by omega) (by omega) (RO.out.at_ (2*r+1) (by have:=ND.out;omega)).1 (RO.out.at_ (r) (by have:=ND.out;omega)).1 hM)
          have ST:Hid (Sort.siftDown Sort.ltInt hi 0 r dk=dk):=hidd (sd_ls (by omega) (fun _=>FL.out) hM)
          clear hM
          refine LB.out.mono ?_
          clear LB
          rintro e w3 ⟨rfl,b3⟩
          have HR:Hid (RowS base g c (Sort.siftDown Sort.ltInt hi 0 i d) w3∧w.grownBy w3 (some g)):=hidd ⟨by rw [← ED.out,ST.out];exact RO.out.keep b3,grown_trans GR.out (grown_below _ b3)⟩
          clear ST RO GR b3
          go_wp2
          go_ret
          exact ⟨⟨_,rfl⟩,HR.out⟩
        · have LB:=hidd (q_less g c n (2*r+1) (r) (i:=2*(r:Int)+1) (j:=(r:Int)) (by omega) rfl dk[2*r+1]! dk[r]! true w2 (by omega) (by omega) (RO.out.at_ (2*r+1) (by have:=ND.out;omega)).1 (RO.out.at_ (r) (by have:=ND.out;omega)).1 hM)
          have GO:Hid (Sort.siftDown Sort.ltInt hi 0 r dk=Sort.siftDown Sort.ltInt hi 0 (2*r+1) (Sort.swp dk r (2*r+1))):=hidd (sd_lg (by omega) (fun _=>FL.out) hM)
          clear hM
          refine LB.out.mono ?_
          clear LB
          rintro e w3 ⟨rfl,b3⟩
          have c3:=keepCell b3 cB
          have mS:=n_swap B o w3 _ c3
          have RO3:=hidd (RO.out.keep b3)
          have GR3:=hidd (grown_trans GR.out (grown_below _ b3))
          have SW:=hidd (q_swap base g c n (i:=(r:Int)) (j:=2*(r:Int)+1) r (2*r+1) rfl (by omega) dk w3 ND.out RO3.out (by omega) (by omega))
          clear RO GR cB b3
          go_wp2_with fail
          refine SW.out.mono ?_
          rintro e w5 ⟨rfl,h5,g5⟩
          have RO5:=hidd h5
          have GR5:=hidd (grown_trans GR3.out g5)
          have ND5:Hid ((Sort.swp dk r (2*r+1)).size=n):=hidd (by rw [Sort.size_swp];exact ND.out)
          have ED5:=hidd (GO.out.symm.trans ED.out)
          clear SW mS RO3 GR3 h5 g5 c3 GO
          go_wp2_with fail
          go_roundw
          case rel=>exact ⟨2*r+1,_,by congr 1 <;>omega,by omega,RO5,GR5,ND5,ED5⟩
          case measure=>simp [intOf];omega
      · have LA:=hidd (q_less g c n (2*r+2) (2*r+1) (i:=2*(r:Int)+1+1) (j:=2*(r:Int)+1) (by omega) (by omega) dk[2*r+2]! dk[2*r+1]! true wr (by omega) (by omega) (RO.out.at_ (2*r+2) (by have:=ND.out;omega)).1 (RO.out.at_ (2*r+1) (by have:=ND.out;omega)).1 hL)
        have FL:=hidd hL
        clear hL
        go_wp2_with fail
        refine LA.out.mono ?_
        rintro e w2 ⟨rfl,b2⟩
        replace cB:=keepCell b2 cB
        replace RO:=hidd (RO.out.keep b2)
        replace GR:=hidd (grown_trans GR.out (grown_below _ b2))
        clear LA mL b2
        have mL:=n_less B o w2 _ cB
        go_wp2_with fail
        cases hM:Sort.ltInt dk[r]! dk[2*r+2]!
        · have LB:=hidd (q_less g c n (2*r+2) (r) (i:=2*(r:Int)+1+1) (j:=(r:Int)) (by omega) rfl dk[2*r+2]! dk[r]! false w2 (by omega) (by omega) (RO.out.at_ (2*r+2) (by have:=ND.out;omega)).1 (RO.out.at_ (r) (by have:=ND.out;omega)).1 hM)
          have ST:Hid (Sort.siftDown Sort.ltInt hi 0 r dk=dk):=hidd (sd_rs h1 FL.out hM)
          clear hM
          refine LB.out.mono ?_
          clear LB
          rintro e w3 ⟨rfl,b3⟩
          have HR:Hid (RowS base g c (Sort.siftDown Sort.ltInt hi 0 i d) w3∧w.grownBy w3 (some g)):=hidd ⟨by rw [← ED.out,ST.out];exact RO.out.keep b3,grown_trans GR.out (grown_below _ b3)⟩
          clear ST RO GR b3
          go_wp2
          go_ret
          exact ⟨⟨_,rfl⟩,HR.out⟩
        · have LB:=hidd (q_less g c n (2*r+2) (r) (i:=2*(r:Int)+1+1) (j:=(r:Int)) (by omega) rfl dk[2*r+2]! dk[r]! true w2 (by omega) (by omega) (RO.out.at_ (2*r+2) (by have:=ND.out;omega)).1 (RO.out.at_ (r) (by have:=ND.out;omega)).1 hM)
          have GO:Hid (Sort.siftDown Sort.ltInt hi 0 r dk=Sort.siftDown Sort.ltInt hi 0 (2*r+2) (Sort.swp dk r (2*r+2))):=hidd (sd_rg h1 FL.out hM)
          clear hM
          refine LB.out.mono ?_
          clear LB
          rintro e w3 ⟨rfl,b3⟩
          have c3:=keepCell b3 cB
          have mS:=n_swap B o w3 _ c3
          have RO3:=hidd (RO.out.keep b3)
          have GR3:=hidd (grown_trans GR.out (grown_below _ b3))
          have SW:=hidd (q_swap base g c n (i:=(r:Int)) (j:=2*(r:Int)+1+1) r (2*r+2) rfl (by omega) dk w3 ND.out RO3.out (by omega) (by omega))
          clear RO GR cB b3
          go_wp2_with fail
          refine SW.out.mono ?_
          rintro e w5 ⟨rfl,h5,g5⟩
          have RO5:=hidd h5
          have GR5:=hidd (grown_trans GR3.out g5)
          have ND5:Hid ((Sort.swp dk r (2*r+2)).size=n):=hidd (by rw [Sort.size_swp];exact ND.out)
          have ED5:=hidd (GO.out.symm.trans ED.out)
          clear SW mS RO3 GR3 h5 g5 c3 GO
          go_wp2_with fail
          go_roundw
          case rel=>exact ⟨2*r+2,_,by congr 1 <;>omega,by omega,RO5,GR5,ND5,ED5⟩
          case measure=>simp [intOf];omega
    · have e2:decide (2*(r:Int)+1+1 < (hi:Int))=false:=df (by omega)
      go_wp2_with fail
      cases hM:Sort.ltInt dk[r]! dk[2*r+1]!
      · have LB:=hidd (q_less g c n (2*r+1) (r) (i:=2*(r:Int)+1) (j:=(r:Int)) (by omega) rfl dk[2*r+1]! dk[r]! false wr (by omega) (by omega) (RO.out.at_ (2*r+1) (by have:=ND.out;omega)).1 (RO.out.at_ (r) (by have:=ND.out;omega)).1 hM)
        have ST:Hid (Sort.siftDown Sort.ltInt hi 0 r dk=dk):=hidd (sd_ls (by omega) (fun h=>absurd h h1) hM)
        clear hM
        refine LB.out.mono ?_
        clear LB
        rintro e w3 ⟨rfl,b3⟩
        have HR:Hid (RowS base g c (Sort.siftDown Sort.ltInt hi 0 i d) w3∧w.grownBy w3 (some g)):=hidd ⟨by rw [← ED.out,ST.out];exact RO.out.keep b3,grown_trans GR.out (grown_below _ b3)⟩
        clear ST RO GR b3
        go_wp2
        go_ret
        exact ⟨⟨_,rfl⟩,HR.out⟩
      · have LB:=hidd (q_less g c n (2*r+1) (r) (i:=2*(r:Int)+1) (j:=(r:Int)) (by omega) rfl dk[2*r+1]! dk[r]! true wr (by omega) (by omega) (RO.out.at_ (2*r+1) (by have:=ND.out;omega)).1 (RO.out.at_ (r) (by have:=ND.out;omega)).1 hM)
        have GO:Hid (Sort.siftDown Sort.ltInt hi 0 r dk=Sort.siftDown Sort.ltInt hi 0 (2*r+1) (Sort.swp dk r (2*r+1))):=hidd (sd_lg (by omega) (fun h=>absurd h h1) hM)
        clear hM
        refine LB.out.mono ?_
        clear LB
        rintro e w3 ⟨rfl,b3⟩
        have c3:=keepCell b3 cB
        have mS:=n_swap B o w3 _ c3
        have RO3:=hidd (RO.out.keep b3)
        have GR3:=hidd (grown_trans GR.out (grown_below _ b3))
        have SW:=hidd (q_swap base g c n (i:=(r:Int)) (j:=2*(r:Int)+1) r (2*r+1) rfl (by omega) dk w3 ND.out RO3.out (by omega) (by omega))
        clear RO GR cB b3
        go_wp2_with fail
        refine SW.out.mono ?_
        rintro e w5 ⟨rfl,h5,g5⟩
        have RO5:=hidd h5
        have GR5:=hidd (grown_trans GR3.out g5)
        have ND5:Hid ((Sort.swp dk r (2*r+1)).size=n):=hidd (by rw [Sort.size_swp];exact ND.out)
        have ED5:=hidd (GO.out.symm.trans ED.out)
        clear SW mS RO3 GR3 h5 g5 c3 GO
        go_wp2_with fail
        go_roundw
        case rel=>exact ⟨2*r+1,_,by congr 1 <;>omega,by omega,RO5,GR5,ND5,ED5⟩
        case measure=>simp [intOf];omega
theorem half_back (j:Nat):((j:Int) - 1).tdiv 2=(((j - 1) / 2:Nat):Int):=by
 by_cases h:j=0
 · subst h;decide
 · rw [Int.tdiv_eq_ediv_of_nonneg (by omega)];omega
set_option maxHeartbeats 8000000 in
set_option maxRecDepth 100000 in
theorem n_up (B o base g c n j:Nat) (d:Array Int) (hn:d.size=n) (w:World) (hB:w.cell? ⟨B,o,none⟩=some (.slice (some ⟨g,0,none⟩) n c)) (hne:B≠g) (hH:RowS base g c d w) (hj:j < n) (hsz:n≤1000000) :
 Calls Tryz.prog 165 #[.iface 186 (.pointer (some ⟨B,o,none⟩)),.int .i64 j] w fun e w'=>e=.returned (.tuple #[])∧RowS base g c (siftUp j d) w'∧w.grownBy w' (some g):=by
 have H0:=hidd hH
 have HN:=hidd hn
 have HB:=hidd hB
 clear hH hn hB
 go_enter Tryz.func165,Tryz.ntmps165
 go_wp2_with fail
 go_loopw [1] (fun v1 wr=>∃ (k:Nat) (dk:Array Int),v1=.int .i64 k∧k < n∧Hid (RowS base g c dk wr)∧Hid (w.grownBy wr (some g))∧Hid (dk.size=n)∧Hid (siftUp k dk=siftUp j d)) (fun v1 _=>(intOf v1).toNat)
 case atStart=>exact ⟨j,d,rfl,hj,H0,hidd (grown_refl _ _),HN,hidd rfl⟩
 case round =>
  obtain ⟨k,dk,rfl,hk,RO,GR,ND,ED⟩:=hrel
  have cB:=GR.out.cell HB.out (by simpa using hne)
  have et:=half_back k
  obtain ⟨m,hm⟩:∃ m,(k - 1) / 2=m:=⟨_,rfl⟩
  rw [hm] at et
  by_cases h0:k=0
  · have e0:((m:Int) == (k:Int))=true:=by simp;omega
    have hmk:m≤k:=by omega
    have hmk2:(m:Int)≤1000000:=by omega
    have HR:Hid (RowS base g c (siftUp j d) wr∧w.grownBy wr (some g)):=hidd ⟨by rw [← ED.out,h0,siftUp_zero];exact RO.out,GR.out⟩
    clear RO GR ED h0 hm
    go_wp2
    go_end0
    exact ⟨rfl,HR.out⟩
  · have e0:((m:Int) == (k:Int))=false:=by simp;omega
    have hmk:m < k:=by omega
    have HM:=hidd hm
    clear hm
    have mL:=n_less B o wr _ cB
    go_wp2_with fail
    cases hM:Sort.ltInt dk[m]! dk[k]!
    · have LB:=hidd (q_less g c n k m (i:=(k:Int)) (j:=(m:Int)) rfl rfl dk[k]! dk[m]! false wr (by omega) (by omega) (RO.out.at_ k (by have:=ND.out;omega)).1 (RO.out.at_ m (by have:=ND.out;omega)).1 hM)
      have ST:Hid (siftUp k dk=dk):=hidd (siftUp_stop (by rw [HM.out];exact hM))
      clear hM
      refine LB.out.mono ?_
      clear LB
      rintro e w3 ⟨rfl,b3⟩
      have HR:Hid (RowS base g c (siftUp j d) w3∧w.grownBy w3 (some g)):=hidd ⟨by rw [← ED.out,ST.out];exact RO.out.keep b3,grown_trans GR.out (grown_below _ b3)⟩
      clear ST RO GR b3
      go_wp2
      go_end0
      exact ⟨rfl,HR.out⟩
    · have LB:=hidd (q_less g c n k m (i:=(k:Int)) (j:=(m:Int)) rfl rfl dk[k]! dk[m]! true wr (by omega) (by omega) (RO.out.at_ k (by have:=ND.out;omega)).1 (RO.out.at_ m (by have:=ND.out;omega)).1 hM)
      have GO:Hid (siftUp k dk=siftUp m (Sort.swp dk m k)):=hidd (by rw [siftUp_go (by omega) (by rw [HM.out];exact hM),HM.out])
      clear hM
      refine LB.out.mono ?_
      clear LB
      rintro e w3 ⟨rfl,b3⟩
      have c3:=keepCell b3 cB
      have mS:=n_swap B o w3 _ c3
      have RO3:=hidd (RO.out.keep b3)
      have GR3:=hidd (grown_trans GR.out (grown_below _ b3))
      have SW:=hidd (q_swap base g c n (i:=(m:Int)) (j:=(k:Int)) m k rfl rfl dk w3 ND.out RO3.out (by omega) (by omega))
      clear RO GR cB b3
      go_wp2_with fail
      refine SW.out.mono ?_
      rintro e w5 ⟨rfl,h5,g5⟩
      have RO5:=hidd h5
      have GR5:=hidd (grown_trans GR3.out g5)
      have ND5:Hid ((Sort.swp dk m k).size=n):=hidd (by rw [Sort.size_swp];exact ND.out)
      have ED5:=hidd (GO.out.symm.trans ED.out)
      clear SW mS RO3 GR3 h5 g5 c3 GO
      go_wp2_with fail
      go_roundw
      case rel=>exact ⟨m,_,rfl,by omega,RO5,GR5,ND5,ED5⟩
      case measure=>simp [intOf];omega
end Go.Proofs.YtdklpgphmoaniaaGreatDoor
