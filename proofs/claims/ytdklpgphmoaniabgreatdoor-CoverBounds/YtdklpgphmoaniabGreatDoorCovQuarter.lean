/-
  Plain facts on how many cells of the coarsest size touch a quarter of the world: counted row by row. No condition beyond those written.
-/
import Derived.Test.YtdklpgphmoaniabGreatDoorJn05
namespace Go.Proofs.YtdklpgphmoaniabGreatDoor
def cellsFrom:Int→List (Int × Nat)→List (Int × Int)
 | _,[]=>[]
 | b,(lo,n) :: R=>(List.range n).map (fun (i:Nat)=>(lo+(i:Int),b))++cellsFrom (b+1) R
theorem mem_from {p:Int × Int}:∀ {R:List (Int × Nat)} {b:Int},p∈cellsFrom b R→b≤p.2
 | [],b,h=>by cases h
 | (lo,n) :: R,b,h=>by
  rw [cellsFrom] at h
  rcases List.mem_append.1 h with h | h
  · obtain ⟨i,-,rfl⟩:=List.mem_map.1 h
    exact Int.le_refl _
  · have:=mem_from h
    omega
theorem nodup_from:∀ (R:List (Int × Nat)) (b:Int),(cellsFrom b R).Nodup
 | [],b=>List.nodup_nil
 | (lo,n) :: R,b=>by
  rw [cellsFrom]
  refine List.nodup_append.2 ⟨?_,nodup_from R (b+1),fun x hx y hy e=>?_⟩
  · refine (List.pairwise_map).2 (List.nodup_range.imp fun {i j} hne he=>hne ?_)
    have:=congrArg Prod.fst he
    dsimp only at this
    omega
  · obtain ⟨i,-,rfl⟩:=List.mem_map.1 hx
    have:=mem_from hy
    rw [← e] at this
    dsimp only at this
    omega
theorem len_from:∀ (R:List (Int × Nat)) (b:Int),(cellsFrom b R).length=(R.map (·.2)).sum
 | [],b=>rfl
 | (lo,n) :: R,b=>by rw [cellsFrom,List.length_append,List.length_map,List.length_range,len_from R (b+1),List.map_cons,List.sum_cons]
def qX (a b:Int):Int:= -3991052*a+2019914*b
def qY (a b:Int):Int:= -4633200*a - 5770395*b
theorem bet_12:bet 12=(-25271,-102960):=by decide
theorem po_12 (a b:Int):poX 12 a b=qX a b∧poY 12 a b=qY a b:=by
 unfold poX poY ctA ctB qX qY
 rw [bet_12]
 dsimp only
 omega
def inQ (a b:Int):Bool:=decide (0≤qX a b) && decide (qX a b≤536870911) && decide (0≤qY a b) && decide (qY a b≤536870911)
def chkIn:Int→List (Int × Nat)→Bool
 | _,[]=>true
 | b,(lo,n) :: R=>inQ lo b && inQ (lo+(n:Int) - 1) b && chkIn (b+1) R
theorem in_from:∀ (R:List (Int × Nat)) (b:Int),chkIn b R=true→∀ p∈cellsFrom b R,inQ p.1 p.2=true
 | [],b,_,p,hp=>by cases hp
 | (lo,n) :: R,b,h,p,hp=>by
  rw [chkIn,Bool.and_eq_true,Bool.and_eq_true] at h
  rw [cellsFrom] at hp
  rcases List.mem_append.1 hp with k | k
  · obtain ⟨i,hi,rfl⟩:=List.mem_map.1 k
    have hi':=List.mem_range.1 hi
    have h1:=h.1.1
    have h2:=h.1.2
    unfold inQ qX qY at h1 h2 ⊢
    simp only [Bool.and_eq_true,decide_eq_true_eq] at h1 h2 ⊢
    omega
  · exact in_from R (b+1) h.2 p k
theorem tw_centre {a b:Int} (h:inQ a b=true):TW 12 0 0 536870911 536870911 (wordOf 0 a b) 0∧cellA (wordOf 0 a b)=a∧cellB (wordOf 0 a b)=b:=by
 unfold inQ at h
 simp only [Bool.and_eq_true,decide_eq_true_eq] at h
 have e:=po_12 a b
 have ht:=tou_at (K:=12) (l1:=0) (u1:=536870911) (l2:=0) (u2:=536870911) (by rw [e.1];omega) (by rw [e.2];omega) (near_self (by omega) a b).1
 have hok:Ok4 ((0:Nat):Int) a b:=tou_ok (by omega) (by omega) (by omega) (by omega) (by omega) (by omega) ht
 exact ⟨tw_mk hok ht,cell_word hok⟩
def rowsIn:List (Int × Nat):=[(-34,2),(-36,4),(-37,6),(-38,7),(-39,9),(-41,11),(-42,13),(-43,14),(-44,16),(-46,18),(-47,20),(-48,21),(-49,23),(-51,25),(-52,27),(-53,28),(-54,30),(-56,32),(-57,34),(-58,35),(-59,37),(-61,39),(-62,41),(-63,42),(-64,44),(-66,46),(-67,48),(-68,49),(-69,51),(-71,53),(-72,55),(-73,56),(-74,58),(-76,60),(-77,62),(-78,63),(-79,65),(-81,67),(-82,69),(-83,70),(-84,72),(-85,73),(-87,76),(-88,77),(-89,79),(-90,80),(-92,83),(-93,84),(-94,86),(-95,87),(-97,90),(-98,91),(-99,93),(-100,94),(-102,97),(-103,98),(-104,100),(-105,101),(-107,104),(-108,105),(-109,107),(-110,108),(-112,111),(-113,112),(-114,114),(-115,116),(-117,116),(-118,116),(-119,116),(-120,116),(-122,116),(-123,116),(-124,116),(-125,116),(-127,116),(-128,116),(-128,115),(-128,114),(-127,111),(-127,110),(-126,108),(-126,107),(-125,104),(-125,103),(-124,101),(-124,100),(-123,97),(-123,96),(-122,94),(-122,93),(-121,90),(-121,89),(-120,87),(-120,86),(-119,83),(-119,82),(-118,80),(-118,79),(-117,76),(-117,75),(-116,73),(-116,72),(-115,69),(-115,68),(-114,66),(-114,65),(-113,62),(-113,61),(-112,59),(-112,58),(-111,55),(-111,54),(-110,52),(-110,51),(-109,48),(-109,47),(-108,45),(-108,44),(-107,41),(-107,40),(-106,38),(-106,37),(-105,35),(-105,33),(-104,31),(-104,30),(-103,28),(-103,26),(-102,24),(-102,23),(-101,21),(-101,19),(-100,17),(-100,16),(-99,14),(-99,12),(-98,10),(-98,9),(-97,7),(-97,5),(-96,3),(-96,2)]
theorem rowsIn_ok:(chkIn (-65) rowsIn && decide (8000 < (rowsIn.map (·.2)).sum))=true:=by decide +kernel
theorem many_quarter:Many 12 0 0 536870911 536870911 0 8000:=by
 have h:=rowsIn_ok
 rw [Bool.and_eq_true,decide_eq_true_eq] at h
 have hi:=in_from _ _ h.1
 refine ⟨(cellsFrom (-65) rowsIn).map fun p=>wordOf 0 p.1 p.2,?_,fun x hx=>?_,?_⟩
 · refine (List.pairwise_map).2 ((nodup_from rowsIn (-65)).imp_of_mem fun {p q} hp hq hne he=>hne ?_)
   have e1:=(tw_centre (hi p hp)).2
   have e2:=(tw_centre (hi q hq)).2
   rw [he] at e1
   exact Prod.ext (e1.1.symm.trans e2.1) (e1.2.symm.trans e2.2)
 · obtain ⟨p,hp,rfl⟩:=List.mem_map.1 hx
   exact (tw_centre (hi p hp)).1
 · rw [List.length_map,len_from];exact h.2
def NearQ (a b:Int):Prop:= -3334006≤qX a b∧qX a b≤540204917∧-3467865≤qY a b∧qY a b≤540338776
theorem tou_quarter {a b:Int} (h:Tou 12 0 0 536870911 536870911 a b):NearQ a b:=by
 have hu:=unparted_of (hv_bent (by omega) a b) h
 have hX:∀ i,i < 6→3*qX a b - 10002018≤(hv 12 a b i).1∧(hv 12 a b i).1≤3*qX a b+10002018:=fun i hi=>by
  unfold hv coX
  dsimp only
  rw [(po_12 _ _).1]
  unfold qX
  rcases (show i=0∨i=1∨i=2∨i=3∨i=4∨i=5 by omega) with e | e | e | e | e | e <;>subst e <;>simp only [wayA,wayB] <;>omega
 have hY:∀ i,i < 6→3*qY a b - 10403595≤(hv 12 a b i).2∧(hv 12 a b i).2≤3*qY a b+10403595:=fun i hi=>by
  unfold hv coY
  dsimp only
  rw [(po_12 _ _).2]
  unfold qY
  rcases (show i=0∨i=1∨i=2∨i=3∨i=4∨i=5 by omega) with e | e | e | e | e | e <;>subst e <;>simp only [wayA,wayB] <;>omega
 obtain ⟨⟨⟨i,hi,h1⟩,j,hj,h2⟩,⟨⟨k,hk,h3⟩,l,hl,h4⟩,-⟩:=hu
 have a1:=hX i hi
 have a2:=hX j hj
 have a3:=hY k hk
 have a4:=hY l hl
 unfold NearQ
 omega
def chkOut:Int→List (Int × Nat)→Bool
 | _,[]=>true
 | b,(lo,n) :: R=>(decide (540204917 < qX (lo - 1) b) || decide (540338776 < qY (lo - 1) b)) && (decide (qX (lo+(n:Int)) b < -3334006) || decide (qY (lo+(n:Int)) b < -3467865)) && chkOut (b+1) R
theorem out_from {a c:Int} (h:NearQ a c):∀ (R:List (Int × Nat)) (b:Int),chkOut b R=true→b≤c→c < b+R.length→(a,c)∈cellsFrom b R
 | [],b,_,h1,h2=>by rw [List.length_nil] at h2;omega
 | (lo,n) :: R,b,k,h1,h2=>by
  rw [chkOut,Bool.and_eq_true,Bool.and_eq_true] at k
  rw [cellsFrom]
  rw [List.length_cons] at h2
  by_cases e:c=b
  · subst e
    have k1:=k.1.1
    have k2:=k.1.2
    simp only [Bool.or_eq_true,decide_eq_true_eq] at k1 k2
    unfold NearQ qX qY at h
    unfold qX qY at k1 k2
    have q1:lo≤a:=by omega
    have q2:a < lo+(n:Int):=by omega
    exact List.mem_append.2 (.inl (List.mem_map.2 ⟨(a - lo).toNat,List.mem_range.2 (by omega),Prod.ext (by dsimp only;omega) rfl⟩))
  · exact List.mem_append.2 (.inr (out_from h R (b+1) k.2 (by omega) (by omega)))
def rowsOut:List (Int × Nat):=[(-31,0),(-33,0),(-34,2),(-35,3),(-36,5),(-38,7),(-39,9),(-40,10),(-41,12),(-43,14),(-44,16),(-45,17),(-46,19),(-48,21),(-49,23),(-50,25),(-51,26),(-53,29),(-54,30),(-55,32),(-56,33),(-58,36),(-59,37),(-60,39),(-61,40),(-63,43),(-64,44),(-65,46),(-66,47),(-68,50),(-69,51),(-70,53),(-71,54),(-73,57),(-74,58),(-75,60),(-76,61),(-78,64),(-79,65),(-80,67),(-81,68),(-82,70),(-84,72),(-85,74),(-86,75),(-87,77),(-89,79),(-90,81),(-91,82),(-92,84),(-94,86),(-95,88),(-96,89),(-97,91),(-99,93),(-100,95),(-101,96),(-102,98),(-104,100),(-105,102),(-106,103),(-107,105),(-109,107),(-110,109),(-111,110),(-112,112),(-114,114),(-115,116),(-116,117),(-117,117),(-119,118),(-120,118),(-121,117),(-122,117),(-124,118),(-125,118),(-126,117),(-127,117),(-129,118),(-129,117),(-129,115),(-128,113),(-128,112),(-127,110),(-127,108),(-126,106),(-126,105),(-125,103),(-125,101),(-124,99),(-124,98),(-123,96),(-123,94),(-122,92),(-122,91),(-121,89),(-121,87),(-120,85),(-120,84),(-119,82),(-119,80),(-118,78),(-118,77),(-117,75),(-117,73),(-116,71),(-116,70),(-115,68),(-115,66),(-114,64),(-114,63),(-113,61),(-113,59),(-112,57),(-112,56),(-111,54),(-111,52),(-110,50),(-110,49),(-109,47),(-109,45),(-108,43),(-108,42),(-107,40),(-107,39),(-106,36),(-105,34),(-105,33),(-104,31),(-104,29),(-103,27),(-103,26),(-102,24),(-102,22),(-101,20),(-101,19),(-100,17),(-100,15),(-99,13),(-99,12),(-98,10),(-98,8),(-97,6),(-97,5),(-96,3),(-96,1),(-95,0),(-95,0)]
theorem rowsOut_ok:(chkOut (-68) rowsOut && decide ((rowsOut.map (·.2)).sum < 10000) && decide (rowsOut.length=148))=true:=by decide +kernel
theorem near_row {a b:Int} (h:NearQ a b):(-68)≤b∧b < (-68)+148:=by
 unfold NearQ qX qY at h
 omega
theorem few_quarter {L:List Int} (hn:L.Nodup) (h:∀ x∈L,TW 12 0 0 536870911 536870911 x 0):L.length < 10000:=by
 have k:=rowsOut_ok
 simp only [Bool.and_eq_true,decide_eq_true_eq] at k
 have hm:∀ p∈L.map (fun x=>(cellA x,cellB x)),p∈cellsFrom (-68) rowsOut:=fun p hp=>by
  obtain ⟨x,hx,rfl⟩:=List.mem_map.1 hp
  have hN:=tou_quarter (h x hx).2.2
  have hr:=near_row hN
  exact out_from hN rowsOut _ k.1.1 hr.1 (by rw [k.2];exact hr.2)
 have hd:(L.map fun x=>(cellA x,cellB x)).Nodup:=by
  refine (List.pairwise_map).2 (hn.imp_of_mem fun {x y} hx hy hne he=>hne ?_)
  have e1:=congrArg Prod.fst he
  have e2:=congrArg Prod.snd he
  dsimp only at e1 e2
  have w1:=word_cell (h x hx).1
  have w2:=word_cell (h y hy).1
  rw [(h x hx).2.1,e1,e2] at w1
  rw [(h y hy).2.1] at w2
  exact w1.symm.trans w2
 have hl:=nodup_len hd hm
 rw [List.length_map,len_from] at hl
 omega
end Go.Proofs.YtdklpgphmoaniabGreatDoor
