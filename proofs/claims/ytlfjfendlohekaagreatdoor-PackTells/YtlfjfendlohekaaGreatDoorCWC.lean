/-
  What package cell's Within tells, and the document's own, of any two cells: in whatever memory where the tables of Units and of digits hold what their texts lay.
-/
import Derived.Test.YtlfjfendlohekaaGreatDoorR2C
namespace Go.Proofs.YtlfjfendlohekaaGreatDoor
open Go.RowKit
def Within4 (r a b t p q:Int):Prop:=Ok4 r a b∧Ok4 t p q∧t≤r∧(ups (r - t).toNat a b).1=p∧(ups (r - t).toNat a b).2=q
def withB (r a b t p q:Int):Bool:=ok4B r a b && (ok4B t p q && (decide (t≤r) && (decide ((ups (r - t).toNat a b).1=p) && decide ((ups (r - t).toNat a b).2=q))))
theorem withB_mk {r a b t p q:Int} (h:Within4 r a b t p q):withB r a b t p q=true:=by
 unfold withB
 rw [ok4_mk h.1,ok4_mk h.2.1,decide_eq_true h.2.2.1,decide_eq_true h.2.2.2.1,decide_eq_true h.2.2.2.2];rfl
theorem withB_no {r a b t p q:Int} (h:¬ Within4 r a b t p q):withB r a b t p q=false:=by
 cases hw:withB r a b t p q with
 | false=>rfl
 | true =>
  unfold withB at hw
  simp only [Bool.and_eq_true,decide_eq_true_eq] at hw
  exact absurd ⟨ok4_of hw.1,ok4_of hw.2.1,hw.2.2.1,hw.2.2.2.1,hw.2.2.2.2⟩ h
set_option maxHeartbeats 2000000 in
theorem rwithin_bad1 (r a b t p q:Int) (h:¬ Ok4 r a b) (w:World) :
 Calls Tryz.prog 45 #[.agg #[.int .i64 r,.int .i64 a,.int .i64 b],.agg #[.int .i64 t,.int .i64 p,.int .i64 q]] w fun e w'=>e=.returned (.bool false)∧Below w.heap.size w w':=by
 have O1:Hid (∀ w,Calls Tryz.prog 47 #[.agg #[.int .i64 r,.int .i64 a,.int .i64 b]] w fun e w'=>e=.returned (.bool false)∧Below w.heap.size w w'):=fun w=>by rw [← ok4_no h];exact rok_any _ _ _ w
 clear h
 go_enter Tryz.func45,Tryz.ntmps45
 go_wp2_with fail
 refine (O1.out _).mono ?_
 rintro e w1 ⟨rfl,d1⟩
 have c1:Below w.heap.size w w1:=Below.trans (by go_grown) (d1.mono (by simp;try omega))
 have hB:=c1
 clear c1 d1
 go_wp2
 go_ret
 exact ⟨rfl,hB⟩
set_option maxHeartbeats 2000000 in
theorem rwithin_bad2 (r a b t p q:Int) (h1:Ok4 r a b) (h:¬ Ok4 t p q) (w:World) :
 Calls Tryz.prog 45 #[.agg #[.int .i64 r,.int .i64 a,.int .i64 b],.agg #[.int .i64 t,.int .i64 p,.int .i64 q]] w fun e w'=>e=.returned (.bool false)∧Below w.heap.size w w':=by
 have O1:Hid (∀ w,Calls Tryz.prog 47 #[.agg #[.int .i64 r,.int .i64 a,.int .i64 b]] w fun e w'=>e=.returned (.bool true)∧Below w.heap.size w w'):=fun w=>by rw [← ok4_mk h1];exact rok_any _ _ _ w
 have O2:Hid (∀ w,Calls Tryz.prog 47 #[.agg #[.int .i64 t,.int .i64 p,.int .i64 q]] w fun e w'=>e=.returned (.bool false)∧Below w.heap.size w w'):=fun w=>by rw [← ok4_no h];exact rok_any _ _ _ w
 clear h h1
 go_enter Tryz.func45,Tryz.ntmps45
 go_wp2_with fail
 refine (O1.out _).mono ?_
 rintro e w1 ⟨rfl,d1⟩
 have c1:Below w.heap.size w w1:=Below.trans (by go_grown) (d1.mono (by simp;try omega))
 have z0:w1.cell? ⟨w.heap.size,0,none⟩=some (.int .i64 r):=keepCell d1 (by go_simp)
 have qz0:=World.block_lt_of_cell? _ _ z0
 have z1:w1.cell? ⟨w.heap.size,1,none⟩=some (.int .i64 a):=keepCell d1 (by go_simp)
 have z2:w1.cell? ⟨w.heap.size,2,none⟩=some (.int .i64 b):=keepCell d1 (by go_simp)
 have y0:w1.cell? ⟨w.heap.size+1,0,none⟩=some (.int .i64 t):=keepCell d1 (by go_simp)
 have qy0:=World.block_lt_of_cell? _ _ y0
 have y1:w1.cell? ⟨w.heap.size+1,1,none⟩=some (.int .i64 p):=keepCell d1 (by go_simp)
 have y2:w1.cell? ⟨w.heap.size+1,2,none⟩=some (.int .i64 q):=keepCell d1 (by go_simp)
 have hB:=c1
 clear c1 d1
 go_wp2_with fail
 refine (O2.out _).mono ?_
 rintro e w2 ⟨rfl,d2⟩
 have c2:Below w1.heap.size w1 w2:=Below.trans (by go_grown) (d2.mono (by simp;try omega))
 replace z0:=keepCell c2 z0
 replace qz0:=World.block_lt_of_cell? _ _ z0
 replace z1:=keepCell c2 z1
 replace z2:=keepCell c2 z2
 replace y0:=keepCell c2 y0
 replace qy0:=World.block_lt_of_cell? _ _ y0
 replace y1:=keepCell c2 y1
 replace y2:=keepCell c2 y2
 replace hB:=belowT hB c2
 clear c2 d2
 go_wp2
 go_ret
 exact ⟨rfl,hB⟩
set_option maxHeartbeats 2000000 in
theorem rwithin_finer (r a b t p q:Int) (h1:Ok4 r a b) (h:Ok4 t p q) (hl:r < t) (w:World) :
 Calls Tryz.prog 45 #[.agg #[.int .i64 r,.int .i64 a,.int .i64 b],.agg #[.int .i64 t,.int .i64 p,.int .i64 q]] w fun e w'=>e=.returned (.bool false)∧Below w.heap.size w w':=by
 have O1:Hid (∀ w,Calls Tryz.prog 47 #[.agg #[.int .i64 r,.int .i64 a,.int .i64 b]] w fun e w'=>e=.returned (.bool true)∧Below w.heap.size w w'):=fun w=>by rw [← ok4_mk h1];exact rok_any _ _ _ w
 have O2:Hid (∀ w,Calls Tryz.prog 47 #[.agg #[.int .i64 t,.int .i64 p,.int .i64 q]] w fun e w'=>e=.returned (.bool true)∧Below w.heap.size w w'):=fun w=>by rw [← ok4_mk h];exact rok_any _ _ _ w
 clear h h1
 go_enter Tryz.func45,Tryz.ntmps45
 go_wp2_with fail
 refine (O1.out _).mono ?_
 rintro e w1 ⟨rfl,d1⟩
 have c1:Below w.heap.size w w1:=Below.trans (by go_grown) (d1.mono (by simp;try omega))
 have z0:w1.cell? ⟨w.heap.size,0,none⟩=some (.int .i64 r):=keepCell d1 (by go_simp)
 have qz0:=World.block_lt_of_cell? _ _ z0
 have z1:w1.cell? ⟨w.heap.size,1,none⟩=some (.int .i64 a):=keepCell d1 (by go_simp)
 have z2:w1.cell? ⟨w.heap.size,2,none⟩=some (.int .i64 b):=keepCell d1 (by go_simp)
 have y0:w1.cell? ⟨w.heap.size+1,0,none⟩=some (.int .i64 t):=keepCell d1 (by go_simp)
 have qy0:=World.block_lt_of_cell? _ _ y0
 have y1:w1.cell? ⟨w.heap.size+1,1,none⟩=some (.int .i64 p):=keepCell d1 (by go_simp)
 have y2:w1.cell? ⟨w.heap.size+1,2,none⟩=some (.int .i64 q):=keepCell d1 (by go_simp)
 have hB:=c1
 clear c1 d1
 go_wp2_with fail
 refine (O2.out _).mono ?_
 rintro e w2 ⟨rfl,d2⟩
 have c2:Below w1.heap.size w1 w2:=Below.trans (by go_grown) (d2.mono (by simp;try omega))
 replace z0:=keepCell c2 z0
 replace qz0:=World.block_lt_of_cell? _ _ z0
 replace z1:=keepCell c2 z1
 replace z2:=keepCell c2 z2
 replace y0:=keepCell c2 y0
 replace qy0:=World.block_lt_of_cell? _ _ y0
 replace y1:=keepCell c2 y1
 replace y2:=keepCell c2 y2
 replace hB:=belowT hB c2
 clear c2 d2
 go_wp2
 go_ret
 exact ⟨rfl,hB⟩
set_option maxHeartbeats 2000000 in
theorem rwithin_yes (r a b t p q:Int) (h1:Ok4 r a b) (h:Ok4 t p q) (h3:t≤r) (h4:(ups (r - t).toNat a b).1=p) (h5:(ups (r - t).toNat a b).2=q) (w:World) :
 Calls Tryz.prog 45 #[.agg #[.int .i64 r,.int .i64 a,.int .i64 b],.agg #[.int .i64 t,.int .i64 p,.int .i64 q]] w fun e w'=>e=.returned (.bool true)∧Below w.heap.size w w':=by
 have O1:Hid (∀ w,Calls Tryz.prog 47 #[.agg #[.int .i64 r,.int .i64 a,.int .i64 b]] w fun e w'=>e=.returned (.bool true)∧Below w.heap.size w w'):=fun w=>by rw [← ok4_mk h1];exact rok_any _ _ _ w
 have O2:Hid (∀ w,Calls Tryz.prog 47 #[.agg #[.int .i64 t,.int .i64 p,.int .i64 q]] w fun e w'=>e=.returned (.bool true)∧Below w.heap.size w w'):=fun w=>by rw [← ok4_mk h];exact rok_any _ _ _ w
 obtain ⟨P,hP⟩:∃ P,(ups (r - t).toNat a b).1=P:=⟨_,rfl⟩
 obtain ⟨Q,hQ⟩:∃ Q,(ups (r - t).toNat a b).2=Q:=⟨_,rfl⟩
 have UP:Hid (∀ w,Calls Tryz.prog 72 #[.agg #[.int .i64 r,.int .i64 a,.int .i64 b],.int .i64 t] w fun e w'=>e=.returned (.tuple #[.agg #[.int .i64 t,.int .i64 P,.int .i64 Q],.int .i64 0])∧Below w.heap.size w w'):=fun w=>by
  rw [← hP,← hQ];exact rup_yes r a b t (r - t).toNat (by omega) h1 h.1 w
 rw [hP] at h4
 rw [hQ] at h5
 have hl:decide (r < t)=false:=df (by omega)
 clear h h1 h3 hP hQ
 subst h4 h5
 go_enter Tryz.func45,Tryz.ntmps45
 go_wp2_with fail
 refine (O1.out _).mono ?_
 rintro e w1 ⟨rfl,d1⟩
 have c1:Below w.heap.size w w1:=Below.trans (by go_grown) (d1.mono (by simp;try omega))
 have z0:w1.cell? ⟨w.heap.size,0,none⟩=some (.int .i64 r):=keepCell d1 (by go_simp)
 have qz0:=World.block_lt_of_cell? _ _ z0
 have z1:w1.cell? ⟨w.heap.size,1,none⟩=some (.int .i64 a):=keepCell d1 (by go_simp)
 have z2:w1.cell? ⟨w.heap.size,2,none⟩=some (.int .i64 b):=keepCell d1 (by go_simp)
 have y0:w1.cell? ⟨w.heap.size+1,0,none⟩=some (.int .i64 t):=keepCell d1 (by go_simp)
 have qy0:=World.block_lt_of_cell? _ _ y0
 have y1:w1.cell? ⟨w.heap.size+1,1,none⟩=some (.int .i64 P):=keepCell d1 (by go_simp)
 have y2:w1.cell? ⟨w.heap.size+1,2,none⟩=some (.int .i64 Q):=keepCell d1 (by go_simp)
 have hB:=c1
 clear c1 d1
 go_wp2_with fail
 refine (O2.out _).mono ?_
 rintro e w2 ⟨rfl,d2⟩
 have c2:Below w1.heap.size w1 w2:=Below.trans (by go_grown) (d2.mono (by simp;try omega))
 replace z0:=keepCell c2 z0
 replace qz0:=World.block_lt_of_cell? _ _ z0
 replace z1:=keepCell c2 z1
 replace z2:=keepCell c2 z2
 replace y0:=keepCell c2 y0
 replace qy0:=World.block_lt_of_cell? _ _ y0
 replace y1:=keepCell c2 y1
 replace y2:=keepCell c2 y2
 replace hB:=belowT hB c2
 clear c2 d2
 go_wp2_with fail
 refine (UP.out _).mono ?_
 rintro e w3 ⟨rfl,d3⟩
 have c3:Below w2.heap.size w2 w3:=Below.trans (by go_grown) (d3.mono (by simp;try omega))
 replace z0:=keepCell c3 z0
 replace qz0:=World.block_lt_of_cell? _ _ z0
 replace z1:=keepCell c3 z1
 replace z2:=keepCell c3 z2
 replace y0:=keepCell c3 y0
 replace qy0:=World.block_lt_of_cell? _ _ y0
 replace y1:=keepCell c3 y1
 replace y2:=keepCell c3 y2
 replace hB:=belowT hB c3
 clear c3 d3
 go_wp2
 go_ret
 exact ⟨rfl,hB.alloc (by have:=hB.size;omega) _⟩
set_option maxHeartbeats 2000000 in
theorem rwithin_first (r a b t p q:Int) (h1:Ok4 r a b) (h:Ok4 t p q) (h3:t≤r) (h4:¬ (ups (r - t).toNat a b).1=p) (w:World) :
 Calls Tryz.prog 45 #[.agg #[.int .i64 r,.int .i64 a,.int .i64 b],.agg #[.int .i64 t,.int .i64 p,.int .i64 q]] w fun e w'=>e=.returned (.bool false)∧Below w.heap.size w w':=by
 have O1:Hid (∀ w,Calls Tryz.prog 47 #[.agg #[.int .i64 r,.int .i64 a,.int .i64 b]] w fun e w'=>e=.returned (.bool true)∧Below w.heap.size w w'):=fun w=>by rw [← ok4_mk h1];exact rok_any _ _ _ w
 have O2:Hid (∀ w,Calls Tryz.prog 47 #[.agg #[.int .i64 t,.int .i64 p,.int .i64 q]] w fun e w'=>e=.returned (.bool true)∧Below w.heap.size w w'):=fun w=>by rw [← ok4_mk h];exact rok_any _ _ _ w
 obtain ⟨P,hP⟩:∃ P,(ups (r - t).toNat a b).1=P:=⟨_,rfl⟩
 obtain ⟨Q,hQ⟩:∃ Q,(ups (r - t).toNat a b).2=Q:=⟨_,rfl⟩
 have UP:Hid (∀ w,Calls Tryz.prog 72 #[.agg #[.int .i64 r,.int .i64 a,.int .i64 b],.int .i64 t] w fun e w'=>e=.returned (.tuple #[.agg #[.int .i64 t,.int .i64 P,.int .i64 Q],.int .i64 0])∧Below w.heap.size w w'):=fun w=>by
  rw [← hP,← hQ];exact rup_yes r a b t (r - t).toNat (by omega) h1 h.1 w
 rw [hP] at h4
 have hl:decide (r < t)=false:=df (by omega)
 clear h h1 h3 hP hQ
 have h4':(P == p)=false:=by simpa using h4
 clear h4
 go_enter Tryz.func45,Tryz.ntmps45
 go_wp2_with fail
 refine (O1.out _).mono ?_
 rintro e w1 ⟨rfl,d1⟩
 have c1:Below w.heap.size w w1:=Below.trans (by go_grown) (d1.mono (by simp;try omega))
 have z0:w1.cell? ⟨w.heap.size,0,none⟩=some (.int .i64 r):=keepCell d1 (by go_simp)
 have qz0:=World.block_lt_of_cell? _ _ z0
 have z1:w1.cell? ⟨w.heap.size,1,none⟩=some (.int .i64 a):=keepCell d1 (by go_simp)
 have z2:w1.cell? ⟨w.heap.size,2,none⟩=some (.int .i64 b):=keepCell d1 (by go_simp)
 have y0:w1.cell? ⟨w.heap.size+1,0,none⟩=some (.int .i64 t):=keepCell d1 (by go_simp)
 have qy0:=World.block_lt_of_cell? _ _ y0
 have y1:w1.cell? ⟨w.heap.size+1,1,none⟩=some (.int .i64 p):=keepCell d1 (by go_simp)
 have y2:w1.cell? ⟨w.heap.size+1,2,none⟩=some (.int .i64 q):=keepCell d1 (by go_simp)
 have hB:=c1
 clear c1 d1
 go_wp2_with fail
 refine (O2.out _).mono ?_
 rintro e w2 ⟨rfl,d2⟩
 have c2:Below w1.heap.size w1 w2:=Below.trans (by go_grown) (d2.mono (by simp;try omega))
 replace z0:=keepCell c2 z0
 replace qz0:=World.block_lt_of_cell? _ _ z0
 replace z1:=keepCell c2 z1
 replace z2:=keepCell c2 z2
 replace y0:=keepCell c2 y0
 replace qy0:=World.block_lt_of_cell? _ _ y0
 replace y1:=keepCell c2 y1
 replace y2:=keepCell c2 y2
 replace hB:=belowT hB c2
 clear c2 d2
 go_wp2_with fail
 refine (UP.out _).mono ?_
 rintro e w3 ⟨rfl,d3⟩
 have c3:Below w2.heap.size w2 w3:=Below.trans (by go_grown) (d3.mono (by simp;try omega))
 replace z0:=keepCell c3 z0
 replace qz0:=World.block_lt_of_cell? _ _ z0
 replace z1:=keepCell c3 z1
 replace z2:=keepCell c3 z2
 replace y0:=keepCell c3 y0
 replace qy0:=World.block_lt_of_cell? _ _ y0
 replace y1:=keepCell c3 y1
 replace y2:=keepCell c3 y2
 replace hB:=belowT hB c3
 clear c3 d3
 go_wp2
 go_ret
 exact ⟨rfl,hB.alloc (by have:=hB.size;omega) _⟩
set_option maxHeartbeats 2000000 in
theorem rwithin_second (r a b t p q:Int) (h1:Ok4 r a b) (h:Ok4 t p q) (h3:t≤r) (h4:(ups (r - t).toNat a b).1=p) (h5:¬ (ups (r - t).toNat a b).2=q) (w:World) :
 Calls Tryz.prog 45 #[.agg #[.int .i64 r,.int .i64 a,.int .i64 b],.agg #[.int .i64 t,.int .i64 p,.int .i64 q]] w fun e w'=>e=.returned (.bool false)∧Below w.heap.size w w':=by
 have O1:Hid (∀ w,Calls Tryz.prog 47 #[.agg #[.int .i64 r,.int .i64 a,.int .i64 b]] w fun e w'=>e=.returned (.bool true)∧Below w.heap.size w w'):=fun w=>by rw [← ok4_mk h1];exact rok_any _ _ _ w
 have O2:Hid (∀ w,Calls Tryz.prog 47 #[.agg #[.int .i64 t,.int .i64 p,.int .i64 q]] w fun e w'=>e=.returned (.bool true)∧Below w.heap.size w w'):=fun w=>by rw [← ok4_mk h];exact rok_any _ _ _ w
 obtain ⟨P,hP⟩:∃ P,(ups (r - t).toNat a b).1=P:=⟨_,rfl⟩
 obtain ⟨Q,hQ⟩:∃ Q,(ups (r - t).toNat a b).2=Q:=⟨_,rfl⟩
 have UP:Hid (∀ w,Calls Tryz.prog 72 #[.agg #[.int .i64 r,.int .i64 a,.int .i64 b],.int .i64 t] w fun e w'=>e=.returned (.tuple #[.agg #[.int .i64 t,.int .i64 P,.int .i64 Q],.int .i64 0])∧Below w.heap.size w w'):=fun w=>by
  rw [← hP,← hQ];exact rup_yes r a b t (r - t).toNat (by omega) h1 h.1 w
 rw [hP] at h4
 rw [hQ] at h5
 have hl:decide (r < t)=false:=df (by omega)
 clear h h1 h3 hP hQ
 subst h4
 have h5':(Q == q)=false:=by simpa using h5
 clear h5
 go_enter Tryz.func45,Tryz.ntmps45
 go_wp2_with fail
 refine (O1.out _).mono ?_
 rintro e w1 ⟨rfl,d1⟩
 have c1:Below w.heap.size w w1:=Below.trans (by go_grown) (d1.mono (by simp;try omega))
 have z0:w1.cell? ⟨w.heap.size,0,none⟩=some (.int .i64 r):=keepCell d1 (by go_simp)
 have qz0:=World.block_lt_of_cell? _ _ z0
 have z1:w1.cell? ⟨w.heap.size,1,none⟩=some (.int .i64 a):=keepCell d1 (by go_simp)
 have z2:w1.cell? ⟨w.heap.size,2,none⟩=some (.int .i64 b):=keepCell d1 (by go_simp)
 have y0:w1.cell? ⟨w.heap.size+1,0,none⟩=some (.int .i64 t):=keepCell d1 (by go_simp)
 have qy0:=World.block_lt_of_cell? _ _ y0
 have y1:w1.cell? ⟨w.heap.size+1,1,none⟩=some (.int .i64 P):=keepCell d1 (by go_simp)
 have y2:w1.cell? ⟨w.heap.size+1,2,none⟩=some (.int .i64 q):=keepCell d1 (by go_simp)
 have hB:=c1
 clear c1 d1
 go_wp2_with fail
 refine (O2.out _).mono ?_
 rintro e w2 ⟨rfl,d2⟩
 have c2:Below w1.heap.size w1 w2:=Below.trans (by go_grown) (d2.mono (by simp;try omega))
 replace z0:=keepCell c2 z0
 replace qz0:=World.block_lt_of_cell? _ _ z0
 replace z1:=keepCell c2 z1
 replace z2:=keepCell c2 z2
 replace y0:=keepCell c2 y0
 replace qy0:=World.block_lt_of_cell? _ _ y0
 replace y1:=keepCell c2 y1
 replace y2:=keepCell c2 y2
 replace hB:=belowT hB c2
 clear c2 d2
 go_wp2_with fail
 refine (UP.out _).mono ?_
 rintro e w3 ⟨rfl,d3⟩
 have c3:Below w2.heap.size w2 w3:=Below.trans (by go_grown) (d3.mono (by simp;try omega))
 replace z0:=keepCell c3 z0
 replace qz0:=World.block_lt_of_cell? _ _ z0
 replace z1:=keepCell c3 z1
 replace z2:=keepCell c3 z2
 replace y0:=keepCell c3 y0
 replace qy0:=World.block_lt_of_cell? _ _ y0
 replace y1:=keepCell c3 y1
 replace y2:=keepCell c3 y2
 replace hB:=belowT hB c3
 clear c3 d3
 go_wp2
 go_ret
 exact ⟨rfl,hB.alloc (by have:=hB.size;omega) _⟩
theorem rwithin_any (r a b t p q:Int) (w:World) :
 Calls Tryz.prog 45 #[.agg #[.int .i64 r,.int .i64 a,.int .i64 b],.agg #[.int .i64 t,.int .i64 p,.int .i64 q]] w fun e w'=>e=.returned (.bool (withB r a b t p q))∧Below w.heap.size w w':=by
 by_cases h1:Ok4 r a b
 · by_cases h2:Ok4 t p q
   · by_cases h3:t≤r
     · by_cases h4:(ups (r - t).toNat a b).1=p
       · by_cases h5:(ups (r - t).toNat a b).2=q
         · rw [withB_mk ⟨h1,h2,h3,h4,h5⟩];exact rwithin_yes r a b t p q h1 h2 h3 h4 h5 w
         · rw [withB_no fun h=>h5 h.2.2.2.2];exact rwithin_second r a b t p q h1 h2 h3 h4 h5 w
       · rw [withB_no fun h=>h4 h.2.2.2.1];exact rwithin_first r a b t p q h1 h2 h3 h4 w
     · rw [withB_no fun h=>h3 h.2.2.1];exact rwithin_finer r a b t p q h1 h2 (by omega) w
   · rw [withB_no fun h=>h2 h.2.1];exact rwithin_bad2 r a b t p q h1 h2 w
 · rw [withB_no fun h=>h1 h.1];exact rwithin_bad1 r a b t p q h1 w
end Go.Proofs.YtlfjfendlohekaaGreatDoor
