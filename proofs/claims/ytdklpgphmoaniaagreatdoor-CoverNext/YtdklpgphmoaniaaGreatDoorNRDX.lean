/-
  What Ring, Neighbours and Disk of package near tell: the words of the places of a ring or of a disk whose cells may be, rising, in a row of new memory; what is refused; for any word, any number, in whatever memory where both tables hold what their texts lay.
-/
import Derived.Test.YtdklpgphmoaniaaGreatDoorNRingX
namespace Go.Proofs.YtdklpgphmoaniaaGreatDoor
open Go.RowKit
theorem at6_new (w:World) (r a b:Int) (T1 T2:TypeId):At6 (w.heap.size+1) r a b [] ((w.alloc (.cells #[.int .i64 r,.int .i64 a,.int .i64 b] T1)).alloc (.cells #[.int .i64 r,.int .i64 a,.int .i64 b,.slice none 0 0] T2)) :=
 ⟨.slice none 0 0,⟨by go_simp,by go_simp,by go_simp,by go_simp,by go_simp,by go_simp,by go_simp,by go_simp⟩,own_nil⟩
def RowSay (C:Nat) (L:List Int) (e:Ending) (w:World):Prop:=∃ s,e=.returned (.tuple #[s,.int .i64 0])∧RowAt C w s L
theorem rows_of {r:Nat} {a b:Int} {P:List (Int × Int)} {L:List Int} (hP:P.Nodup) (hp:L.Perm (wordsAt r a b P)) (hs:L.Pairwise (·≤·)):Rows r a b P L :=
 ⟨hp,rising_of_le hs ((hp.nodup_iff).2 (wordsAt_nodup a b hP))⟩
theorem nsort (B:Nat) (r x y:Int) (L:List Int) (hL:L.length≤40000) (w:World) (h:At6 B r x y L w):∃ s,w.cell? ⟨B,3,none⟩=some s ∧
 Calls Tryz.prog 76 #[s] w fun e w'=>e=.returned (.tuple #[])∧(∃ M:List Int,M.Perm L∧M.Pairwise (·≤·)∧RowAt (B+1) w' s M)∧w'.cell? ⟨B,3,none⟩=some s∧Below (B+1) w w':=by
 obtain ⟨v,hT,hO⟩:=h
 refine ⟨v,hT.2.2.2.1,?_⟩
 have hlt:=hT.lt
 have hv:(v=.slice none 0 0∧L.length=0)∨∃ g cap,v=.slice (some ⟨g,0,none⟩) L.length cap:=by
  rcases hO.2 with h | ⟨g,cap,cur,hv,_⟩
  · exact Or.inl h
  · exact Or.inr ⟨g,cap,hv⟩
 rcases hv with ⟨rfl,h0⟩ | ⟨g,cap,rfl⟩
 · have hL0:L=[]:=List.length_eq_zero_iff.1 h0
   subst hL0
   refine (u_sort_nil w).mono ?_
   rintro e w' ⟨rfl,hb⟩
   exact ⟨rfl,⟨[],List.Perm.refl _,List.Pairwise.nil,Or.inl ⟨rfl,rfl⟩⟩,keepCell hb hT.2.2.2.1,hb.mono (by omega)⟩
 · have hc:=own_cells hO
   refine (u_sort g 0 cap L.length L.toArray (by simp) w (own_holds hO) hc.2.2.2 (by omega)).mono ?_
   rintro e w' ⟨rfl,d',hS,hR⟩
   have hl:=sorts_list rfl hS
   have hb:Below (B+1) w w':=hR.2.2.1.mono hc.2.2.1
   have el:d'.toList.length=L.length:=by rw [Array.length_toList];exact hl.2.2
   refine ⟨rfl,⟨d'.toList,hl.1,hl.2.1,Or.inr ⟨g,cap,by rw [el],hc.2.2.1,fun j hj=>?_⟩⟩,(hb.cell (Nat.lt_succ_self B)).trans hT.2.2.2.1,hb⟩
   have hj':j < d'.size:=by simpa using hj
   have:=(hR.2.1 j hj').1
   rw [Nat.zero_add] at this
   rw [this]
   simp [hj']
set_option maxHeartbeats 4000000 in
set_option maxRecDepth 20000 in
theorem nring_yes (v:Int) (k:Nat) (hw:Whole v) (hk:k≤3333) (w:World) (hT:Tabs w) :
 Calls Tryz.prog 40 #[.int .u64 v,.int .i64 (k:Int)] w fun e w'=>(∃ L,RowSay w.heap.size L e w'∧Rows (wR v).toNat (cellA v) (cellB v) (rngP k) L)∧Below w.heap.size w w':=by
 have MI:=hidd (nmiddle_yes v k 3333 hw (by omega) (by omega))
 have hO:=cell_ok hw
 have hpt:=ok4_part hO
 have hr:=wR_box v
 have hT0:Hid (Tabs w):=hT
 obtain ⟨r,er⟩:∃ r:Nat,wR v=r:=⟨(wR v).toNat,by omega⟩
 rw [er] at MI ⊢
 rw [show ((r:Int)).toNat=r by omega]
 generalize cellA v=a at *
 generalize cellB v=b at *
 clear hO hT hw hr er
 have RE:Hid (∀ (B:Nat) (w:World),At6 B (r:Int) a b [] w→Tabs w→2 < B→0 < B→Calls Tryz.prog 73 #[.int .i64 (k:Int),.int .i64 4,.func (.func 74) #[.pointer (some ⟨B,0,none⟩)] #[]] w fun e w'=>e=.returned (.tuple #[])∧At6 B (r:Int) a (b - k) [] w'∧Below B w w'):=by
  refine hidd fun B w hA hT g0 g1=>?_
  have:=nsteps B 4 k (r:Int) a b [] (by omega) (by omega) (by omega) (by omega) w hA hT g0 g1
  rw [show a+(k:Int)*uA 4=a by show a+(k:Int)*0=a;omega,show b+(k:Int)*uB 4=b - k by show b+(k:Int)*(-1)=b - k;omega] at this
  exact this
 have RO:Hid (∀ (B:Nat) (w:World),At6 B (r:Int) a (b - k) [] w→Tabs w→2 < B→0 < B→Calls Tryz.prog 75 #[.pointer (some ⟨B,0,none⟩),.int .i64 (k:Int)] w fun e w'=>e=.returned (.tuple #[])∧At6 B (r:Int) a (b - k) (wordsAt r a b (rngP k)) w'∧Below B w w') :=
  hidd fun B w hA hT g0 g1=>nround B r k a b [] hk (by omega) (by omega) (by simp;omega) w hA hT g0 g1
 have hlen:(wordsAt r a b (rngP k)).length≤40000:=by have:=wordsAt_len r a b (rngP k);rw [rngP_len] at this;omega
 have SO:Hid (∀ (B:Nat) (w:World),At6 B (r:Int) a (b - k) (wordsAt r a b (rngP k)) w→_):=hidd fun B w hA=>nsort B (r:Int) a (b - k) _ hlen w hA
 have ND:Hid ((rngP k).Nodup):=rngP_nodup k
 clear hlen hpt
 go_enter Tryz.func40,Tryz.ntmps40
 go_wp2_with fail
 refine (MI.out _ hT0.out).mono ?_
 rintro e w1 ⟨rfl,d1⟩
 have c1:Below w.heap.size w w1:=Below.trans (by go_grown) (d1.mono (by simp;try omega))
 have hB:=c1
 clear c1 d1
 have hT1:=hT0.out.below hB
 have A2:=hidd (at6_new w1 r a b 25 119)
 have T2:Hid (Tabs ((w1.alloc (.cells #[.int .i64 r,.int .i64 a,.int .i64 b] 25)).alloc (.cells #[.int .i64 r,.int .i64 a,.int .i64 b,.slice none 0 0] 119))):=hT1.below (belowT (allocB _ _) (allocB _ _))
 have B2:Below w.heap.size w ((w1.alloc (.cells #[.int .i64 r,.int .i64 a,.int .i64 b] 25)).alloc (.cells #[.int .i64 r,.int .i64 a,.int .i64 b,.slice none 0 0] 119)):=belowT hB (belowT (allocB _ _) (allocB _ _))
 have g0:2 < w1.heap.size+1:=Nat.lt_succ_of_lt hT1.lt.1
 have g1:0 < w1.heap.size+1:=Nat.lt_succ_of_lt hT1.lt.2
 have hwB:w.heap.size≤w1.heap.size+1:=by have:=hB.size;omega
 go_wp2_with fail
 generalize (w1.alloc (.cells #[.int .i64 r,.int .i64 a,.int .i64 b] 25)).alloc (.cells #[.int .i64 r,.int .i64 a,.int .i64 b,.slice none 0 0] 119)=w2 at A2 T2 B2 ⊢
 generalize w1.heap.size+1=B at A2 g0 g1 hwB ⊢
 clear hT1 MI hT0 hB
 refine (RE.out B w2 A2.out T2.out g0 g1).mono ?_
 rintro e w3 ⟨rfl,a3,b3⟩
 have A3:=hidd a3
 have T3:=hidd (T2.out.low g0 g1 b3)
 have B3:=B2.trans (b3.mono hwB)
 clear a3 b3 RE A2 T2 B2
 go_wp2_with fail
 refine (RO.out B w3 A3.out T3.out g0 g1).mono ?_
 rintro e w4 ⟨rfl,a4,b4⟩
 have B4:=B3.trans (b4.mono hwB)
 obtain ⟨s,c4,SC⟩:=SO.out B w4 a4
 replace SC:=hidd SC
 clear a4 b4 RO SO A3 T3 B3 g0 g1
 go_wp2_with fail
 refine SC.out.mono ?_
 rintro e w5 ⟨rfl,⟨M,m1,m2,m3⟩,c5,b5⟩
 have HR:=hidd (rows_of ND.out m1 m2)
 have B5:=B4.trans (b5.mono (by omega))
 have M3:=hidd (m3.mono (show w.heap.size≤B+1 by omega))
 clear m1 m2 m3 b5 SC c4 B4
 go_wp2
 go_ret2
 exact ⟨⟨M,⟨s,rfl,M3.out⟩,HR.out⟩,B5⟩
set_option maxHeartbeats 2000000 in
theorem nneigh_yes (v:Int) (hw:Whole v) (w:World) (hT:Tabs w) :
 Calls Tryz.prog 17 #[.int .u64 v] w fun e w'=>(∃ L,RowSay w.heap.size L e w'∧Rows (wR v).toNat (cellA v) (cellB v) (rngP 1) L)∧Below w.heap.size w w':=by
 have RI:=hidd (nring_yes v 1 hw (by omega) w hT)
 go_enter Tryz.func17,Tryz.ntmps17
 go_wp2_with fail
 refine RI.out.mono ?_
 rintro e w1 ⟨⟨L,⟨s,rfl,hr⟩,hR⟩,hB⟩
 have HR:=hidd hR
 have Hr:=hidd hr
 clear hR hr RI
 go_wp2
 go_ret2
 exact ⟨⟨L,⟨s,rfl,Hr.out⟩,HR.out⟩,hB⟩
end Go.Proofs.YtdklpgphmoaniaaGreatDoor
