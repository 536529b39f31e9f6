/-
  Which of two spots comes first, as package cover tells; in whatever memory.
-/
import Derived.Test.YtdklpgphmoaniabGreatDoorJn18
namespace Go.Proofs.YtdklpgphmoaniabGreatDoor
open Go.RowKit
def spA (x:Int):Value:=.agg #[.int .i64 (sp0 x),.int .i64 (sp1 x),.int .i64 (sp2 x)]
set_option maxHeartbeats 4000000 in
set_option maxRecDepth 100000 in
theorem c_compare_core (x0 x1 x2 y0 y1 y2 p q r Z:Int) (hZ:orG (threeG p q r)=Z) (C0:Hid (∀ w,Calls Tryz.prog 157 #[.int .i64 x0,.int .i64 y0] w fun e w'=>e=.returned (.int .i64 p)∧w'=w)) (C1:Hid (∀ w,Calls Tryz.prog 157 #[.int .i64 x1,.int .i64 y1] w fun e w'=>e=.returned (.int .i64 q)∧w'=w)) (C2:Hid (∀ w,Calls Tryz.prog 157 #[.int .i64 x2,.int .i64 y2] w fun e w'=>e=.returned (.int .i64 r)∧w'=w)) (w:World) :
 Calls Tryz.prog 155 #[.agg #[.int .i64 x0,.int .i64 x1,.int .i64 x2],.agg #[.int .i64 y0,.int .i64 y1,.int .i64 y2]] w fun e w'=>e=.returned (.int .i64 Z)∧Below w.heap.size w w':=by
 have OR:=hidd fun g c w h0 h1 h2=>c_or3 g c p q r Z hZ w h0 h1 h2
 clear hZ
 go_enter Tryz.func155,Tryz.ntmps155
 go_wp2_with fail
 have al:=belowT (allocB w (.cells #[.int .i64 x0,.int .i64 x1,.int .i64 x2] 126)) (allocB (w.alloc (.cells #[.int .i64 x0,.int .i64 x1,.int .i64 x2] 126)) (.cells #[.int .i64 y0,.int .i64 y1,.int .i64 y2] 126))
 have a0:((w.alloc (.cells #[.int .i64 x0,.int .i64 x1,.int .i64 x2] 126)).alloc (.cells #[.int .i64 y0,.int .i64 y1,.int .i64 y2] 126)).cell? ⟨w.heap.size,0,none⟩=some (.int .i64 x0):=by go_simp
 have a1:((w.alloc (.cells #[.int .i64 x0,.int .i64 x1,.int .i64 x2] 126)).alloc (.cells #[.int .i64 y0,.int .i64 y1,.int .i64 y2] 126)).cell? ⟨w.heap.size,1,none⟩=some (.int .i64 x1):=by go_simp
 have a2:((w.alloc (.cells #[.int .i64 x0,.int .i64 x1,.int .i64 x2] 126)).alloc (.cells #[.int .i64 y0,.int .i64 y1,.int .i64 y2] 126)).cell? ⟨w.heap.size,2,none⟩=some (.int .i64 x2):=by go_simp
 have b0:((w.alloc (.cells #[.int .i64 x0,.int .i64 x1,.int .i64 x2] 126)).alloc (.cells #[.int .i64 y0,.int .i64 y1,.int .i64 y2] 126)).cell? ⟨w.heap.size+1,0,none⟩=some (.int .i64 y0):=by go_simp
 have b1:((w.alloc (.cells #[.int .i64 x0,.int .i64 x1,.int .i64 x2] 126)).alloc (.cells #[.int .i64 y0,.int .i64 y1,.int .i64 y2] 126)).cell? ⟨w.heap.size+1,1,none⟩=some (.int .i64 y1):=by go_simp
 have b2:((w.alloc (.cells #[.int .i64 x0,.int .i64 x1,.int .i64 x2] 126)).alloc (.cells #[.int .i64 y0,.int .i64 y1,.int .i64 y2] 126)).cell? ⟨w.heap.size+1,2,none⟩=some (.int .i64 y2):=by go_simp
 generalize (w.alloc (.cells #[.int .i64 x0,.int .i64 x1,.int .i64 x2] 126)).alloc (.cells #[.int .i64 y0,.int .i64 y1,.int .i64 y2] 126)=W2 at *
 have hS0:=keepSixQ (drewB W2) ⟨a0,a1,a2,b0,b1,b2,al⟩
 go_region_held3 (fun w'=>w'.cell? ⟨w.heap.size,0,none⟩=some (.int .i64 x0)∧w'.cell? ⟨w.heap.size,1,none⟩=some (.int .i64 x1)∧w'.cell? ⟨w.heap.size,2,none⟩=some (.int .i64 x2)∧w'.cell? ⟨w.heap.size+1,0,none⟩=some (.int .i64 y0)∧w'.cell? ⟨w.heap.size+1,1,none⟩=some (.int .i64 y1)∧w'.cell? ⟨w.heap.size+1,2,none⟩=some (.int .i64 y2)∧Below w.heap.size w w') (first | exact hS0 | assumption | exact keepSixQ (allocB _ _) (by assumption))
  (first | (go_at_call 157;(first | with_reducible refine (C0.out _).mono ?_ | with_reducible refine (C1.out _).mono ?_ | with_reducible refine (C2.out _).mono ?_);rintro e w' ⟨rfl,rfl⟩) | (go_at_call 156;refine (OR.out _ _ _ (by go_simp) (by go_simp) (by go_simp)).mono ?_;rintro e w' ⟨rfl,rfl⟩))
 go_wp2
 go_ret
 rename_i hS
 exact ⟨rfl,hS.2.2.2.2.2.2⟩
theorem c_compare (x y:Int) (w:World):Calls Tryz.prog 155 #[spA x,spA y] w fun e w'=>e=.returned (.int .i64 (cmpS x y))∧Below w.heap.size w w' :=
 c_compare_core _ _ _ _ _ _ _ _ _ _ (cmpS_or x y) (hidd fun w=>c_cmp _ _ w) (hidd fun w=>c_cmp _ _ w) (hidd fun w=>c_cmp _ _ w) w
def RowS (base g c:Nat) (d:Array Int) (w:World):Prop:=w.ownsRow base 126 3 (.slice (some ⟨g,0,none⟩) d.size c) d.size (flat d.toList)
theorem RowS.lt {base g c:Nat} {d:Array Int} {w:World} (h:RowS base g c d w):base≤g∧g < w.heap.size:=World.ownsRow.lt h g rfl
theorem rowS_at {base g c n:Nat} {L:List Int} {w:World} (h:w.ownsRow base 126 3 (.slice (some ⟨g,0,none⟩) n c) n (flat L)) (i:Nat) (hi:i < L.length) :
 (w.cell? ⟨g,i*3,none⟩=some (.int .i64 (sp0 L[i]))∧w.cell? ⟨g,i*3+1,none⟩=some (.int .i64 (sp1 L[i]))∧w.cell? ⟨g,i*3+2,none⟩=some (.int .i64 (sp2 L[i]))) ∧
   w.frozen? ⟨g,i*3,none⟩=false∧w.frozen? ⟨g,i*3+1,none⟩=false∧w.frozen? ⟨g,i*3+2,none⟩=false:=by
 have f:=flat_at L i hi
 have hl:L.length*3=n*3:=by rw [← flat_len];exact h.1
 have c:=fun j hj=>World.ownsRow.cellAt h j hj
 exact ⟨⟨(c _ (by omega)).trans f.1,(c _ (by omega)).trans f.2.1,(c _ (by omega)).trans f.2.2⟩,World.ownsRow.frozenAt h _,World.ownsRow.frozenAt h _,World.ownsRow.frozenAt h _⟩
theorem RowS.at_ {base g c:Nat} {d:Array Int} {w:World} (h:RowS base g c d w) (i:Nat) (hi:i < d.size) :
 (w.cell? ⟨g,i*3,none⟩=some (.int .i64 (sp0 d[i]!))∧w.cell? ⟨g,i*3+1,none⟩=some (.int .i64 (sp1 d[i]!))∧w.cell? ⟨g,i*3+2,none⟩=some (.int .i64 (sp2 d[i]!))) ∧
   w.frozen? ⟨g,i*3,none⟩=false∧w.frozen? ⟨g,i*3+1,none⟩=false∧w.frozen? ⟨g,i*3+2,none⟩=false:=by
 have e:d.toList[i]'(by simpa using hi)=d[i]! :=by rw [getElem!_pos d i hi];simp
 rw [← e]
 exact rowS_at h i (by simpa using hi)
theorem grown_refl (w:World) (r:Option Nat):w.grownBy w r:=⟨rfl,rfl,rfl,Nat.le_refl _,fun _ _ _=>rfl⟩
theorem grown_trans {u v w:World} {r:Option Nat} (h:u.grownBy v r) (k:v.grownBy w r):u.grownBy w r :=
 ⟨k.os.trans h.os,k.tape.trans h.tape,k.output.trans h.output,Nat.le_trans h.size k.size,fun i hi hn=>(k.block i (Nat.lt_of_lt_of_le hi h.size) hn).trans (h.block i hi hn)⟩
theorem grown_below {w w':World} (r:Option Nat) (h:Below w.heap.size w w'):w.grownBy w' r:=⟨h.os,h.tape,h.output,h.size,fun k hk _=>h.block k hk⟩
theorem RowS.keep {base g c:Nat} {d:Array Int} {w w':World} (h:RowS base g c d w) (hb:Below w.heap.size w w'):RowS base g c d w':=own_keep hb h
theorem RowS.put {base g c n:Nat} {L:List Int} {w:World} (h:w.ownsRow base 126 3 (.slice (some ⟨g,0,none⟩) n c) n (flat L)) (i:Nat) (x:Int) :
 (((w.setCell ⟨g,i*3,none⟩ (.int .i64 (sp0 x))).setCell ⟨g,i*3+1,none⟩ (.int .i64 (sp1 x))).setCell ⟨g,i*3+2,none⟩ (.int .i64 (sp2 x))).ownsRow base 126 3 (.slice (some ⟨g,0,none⟩) n c) n (flat (L.set i x)) ∧
 w.grownBy (((w.setCell ⟨g,i*3,none⟩ (.int .i64 (sp0 x))).setCell ⟨g,i*3+1,none⟩ (.int .i64 (sp1 x))).setCell ⟨g,i*3+2,none⟩ (.int .i64 (sp2 x))) (some g):=by
 have s1:=World.ownsRow.stored h (i*3) (.int .i64 (sp0 x))
 have s2:=World.ownsRow.stored s1.1 (i*3+1) (.int .i64 (sp1 x))
 have s3:=World.ownsRow.stored s2.1 (i*3+2) (.int .i64 (sp2 x))
 rw [flat_set] at s3
 exact ⟨s3.1,grown_trans (grown_trans s1.2 s2.2) s3.2⟩
set_option maxHeartbeats 4000000 in
set_option maxRecDepth 100000 in
theorem q_swap (base g c n:Nat) {i j:Int} (ni nj:Nat) (ei:(ni:Int)=i) (ej:(nj:Int)=j) (d:Array Int) (w:World) (hn:d.size=n) (h:RowS base g c d w) (hi:ni < n) (hj:nj < n) :
 Calls Tryz.prog 154 #[.slice (some ⟨g,0,none⟩) n c,.int .i64 i,.int .i64 j] w fun e w'=>e=.returned (.tuple #[])∧RowS base g c (Sort.swp d ni nj) w'∧w.grownBy w' (some g):=by
 subst ei ej
 have i1:(ni:Int) < (n:Int):=by omega
 have j1:(nj:Int) < (n:Int):=by omega
 have HH:=hidd h
 have HN:=hidd hn
 obtain ⟨X,eX⟩:∃ X,d[ni]! =X:=⟨_,rfl⟩
 obtain ⟨Y,eY⟩:∃ Y,d[nj]! =Y:=⟨_,rfl⟩
 have hX:=h.at_ ni (by omega)
 have hY:=h.at_ nj (by omega)
 rw [eX] at hX
 rw [eY] at hY
 obtain ⟨⟨a0,a1,a2⟩,p0,p1,p2⟩:=hX
 obtain ⟨⟨b0,b1,b2⟩,r0,r1,r2⟩:=hY
 have P1:=RowS.put (n:=n) (by rw [← hn];exact h) ni Y
 have P2:=hidd (RowS.put P1.1 nj X)
 obtain ⟨⟨q0,q1,q2⟩,-⟩:=rowS_at P1.1 nj (by rw [List.length_set];simp;omega)
 have G1:=hidd P1.2
 have EX:=hidd eX
 have EY:=hidd eY
 generalize (d.toList.set ni Y)[nj]'_=z at *
 clear h P1 eX eY hn
 go_enter Tryz.func154,Tryz.ntmps154
 go_wp2_with fail
 go_region
 go_wp2_with fail
 go_end0
 refine ⟨rfl,RowS.keep ?_ (drewB _),grown_trans (grown_trans G1.out P2.out.2) (grown_below _ (drewB _))⟩
 unfold RowS
 rw [swp_list,Sort.size_swp,HN.out,EX.out,EY.out]
 exact P2.out.1
set_option maxHeartbeats 4000000 in
set_option maxRecDepth 100000 in
theorem q_less (g c n:Nat) {i j:Int} (ni nj:Nat) (ei:(ni:Int)=i) (ej:(nj:Int)=j) (x y:Int) (b:Bool) (w:World) (hi:ni < n) (hj:nj < n)
 (hx:w.cell? ⟨g,ni*3,none⟩=some (.int .i64 (sp0 x))∧w.cell? ⟨g,ni*3+1,none⟩=some (.int .i64 (sp1 x))∧w.cell? ⟨g,ni*3+2,none⟩=some (.int .i64 (sp2 x)))
 (hy:w.cell? ⟨g,nj*3,none⟩=some (.int .i64 (sp0 y))∧w.cell? ⟨g,nj*3+1,none⟩=some (.int .i64 (sp1 y))∧w.cell? ⟨g,nj*3+2,none⟩=some (.int .i64 (sp2 y))) (hb:Sort.ltInt y x=b) :
 Calls Tryz.prog 153 #[.slice (some ⟨g,0,none⟩) n c,.int .i64 i,.int .i64 j] w fun e w'=>e=.returned (.bool b)∧Below w.heap.size w w':=by
 subst ei ej
 have i1:(ni:Int) < (n:Int):=by omega
 have j1:(nj:Int) < (n:Int):=by omega
 obtain ⟨x0,x1,x2⟩:=hx
 obtain ⟨y0,y1,y2⟩:=hy
 have hd:=(cmpS_lt x y).trans hb
 have CC:=hidd fun w=>c_compare x y w
 unfold spA at CC
 have hS0:=keepSixQ (drewB w) ⟨x0,x1,x2,y0,y1,y2,Below.refl _ _⟩
 go_enter Tryz.func153,Tryz.ntmps153
 go_wp2_with fail
 go_region_held3 (fun w'=>w'.cell? ⟨g,ni*3,none⟩=some (.int .i64 (sp0 x))∧w'.cell? ⟨g,ni*3+1,none⟩=some (.int .i64 (sp1 x))∧w'.cell? ⟨g,ni*3+2,none⟩=some (.int .i64 (sp2 x))∧w'.cell? ⟨g,nj*3,none⟩=some (.int .i64 (sp0 y))∧w'.cell? ⟨g,nj*3+1,none⟩=some (.int .i64 (sp1 y))∧w'.cell? ⟨g,nj*3+2,none⟩=some (.int .i64 (sp2 y))∧Below w.heap.size w w') (first | exact hS0 | assumption | exact keepSixQ (by assumption) (by assumption))
  (first | (go_at_call 155;refine (CC.out _).mono ?_;rintro e w' ⟨rfl,hb⟩))
 go_wp2
 go_ret
 rename_i hS
 exact ⟨by rw [← hd];rfl,hS.2.2.2.2.2.2⟩
end Go.Proofs.YtdklpgphmoaniabGreatDoor
