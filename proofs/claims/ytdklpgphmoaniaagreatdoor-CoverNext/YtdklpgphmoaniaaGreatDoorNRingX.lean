/-
  What package near's walker takes along a ring; the cell that a Ring or a Disk is about; for words of cells, in whatever memory where both tables hold what their texts lay.
-/
import Derived.Test.YtdklpgphmoaniaaGreatDoorNWalkX
namespace Go.Proofs.YtdklpgphmoaniaaGreatDoor
open Go.RowKit
theorem sd_box {k i:Nat} {j:Int} (hi:i < 6) (h0:0≤j) (hj:j≤k) (hk:k≤20000):(-20000≤sdA k i j∧sdA k i j≤20000)∧(-20000≤sdB k i j∧sdB k i j≤20000):=by
 have h:=stp_ge (sdA k i j) (sdB k i j)
 rw [sd_stp hi h0 hj] at h
 omega
set_option maxHeartbeats 2000000 in
theorem nside (B r k i:Nat) (a b:Int) (L:List Int) (hi:i < 6) (hk:k≤3333) (ha: -500000000≤a∧a≤500000000) (hb: -500000000≤b∧b≤500000000) (hL:L.length≤36000) (w:World) (h:At6 B (r:Int) (a+sdA k i 0) (b+sdB k i 0) L w) (hT:Tabs w) (g0:2 < B) (g1:0 < B) :
 Calls Tryz.prog 73 #[.int .i64 (k:Int),.int .i64 (i:Int),.func (.func 113) #[.pointer (some ⟨B,0,none⟩)] #[]] w fun e w'=>e=.returned (.tuple #[])∧At6 B (r:Int) (a+sdA k i k) (b+sdB k i k) (L++wordsAt r a b (sdP k i k)) w'∧Below B w w':=by
 have ST:Hid (∀ j:Nat,j < k→∀ wr,At6 B (r:Int) (a+sdA k i j) (b+sdB k i j) (L++wordsAt r a b (sdP k i j)) wr→Tabs wr→Calls Tryz.prog 113 #[.pointer (some ⟨B,0,none⟩),.int .i64 i] wr fun e w' =>
  e=.returned (.tuple #[])∧At6 B (r:Int) (a+sdA k i ((j+1:Nat):Int)) (b+sdB k i ((j+1:Nat):Int)) (L++wordsAt r a b (sdP k i (j+1))) w'∧Below B wr w'):=by
  refine hidd fun j hj wr h hT=>?_
  have m1:=sd_box (k:=k) (i:=i) (j:=(j:Int)) hi (by omega) (by omega) (by omega)
  have hl:=wordsAt_len r a b (sdP k i j)
  rw [sdP_len] at hl
  have hs:=sd_step (k:Int) hi (j:Int)
  have:=ntakeOn B r i (a+sdA k i j) (b+sdB k i j) _ hi ⟨by omega,by omega⟩ ⟨by omega,by omega⟩ (by rw [List.length_append];omega) wr h hT g0 g1
  rw [show a+sdA k i j+uA i=a+sdA k i ((j+1:Nat):Int) by rw [show ((j+1:Nat):Int)=(j:Int)+1 by omega,hs.1];omega,show b+sdB k i j+uB i=b+sdB k i ((j+1:Nat):Int) by rw [show ((j+1:Nat):Int)=(j:Int)+1 by omega,hs.2];omega,
   List.append_assoc] at this
  rw [sdP_step,wordsAt_append,wordsAt_one,← show ((j+1:Nat):Int)=(j:Int)+1 by omega]
  exact this
 have hT0:Hid (Tabs w):=hT
 have h0:Hid (At6 B (r:Int) (a+sdA k i ((0:Nat):Int)) (b+sdB k i ((0:Nat):Int)) (L++wordsAt r a b (sdP k i 0)) w):=hidd (by rw [show sdP k i 0=[] from rfl,wordsAt_nil,List.append_nil];exact h)
 clear hT h ha hb
 go_enter Tryz.func73,Tryz.ntmps73
 go_wp2_with fail
 go_loopw [7] (fun v7 wr=>∃ j:Nat,j≤k∧v7=.int .i64 (j:Int)∧Hid (At6 B (r:Int) (a+sdA k i (j:Int)) (b+sdB k i (j:Int)) (L++wordsAt r a b (sdP k i j)) wr)∧Below B w wr) (fun v7 _=>k - (intOf v7).toNat)
 case atStart=>exact ⟨0,by omega,rfl,h0,Below.refl _ _⟩
 case round =>
  clear h0
  obtain ⟨j,hj,rfl,hA,hB⟩:=hrel
  by_cases hlt:j < k
  · go_wp2_with fail
    refine (ST.out j hlt wr hA.out (hT0.out.low g0 g1 hB)).mono ?_
    rintro e w1 ⟨rfl,a1,b1⟩
    have HR:=hidd a1
    have hB1:=hB.trans b1
    clear a1 hA
    go_wp2_with fail
    go_roundw
    case rel=>exact ⟨j+1,by omega,by go_num,HR,hB1⟩
    case measure=>simp [intOf];omega
  · obtain rfl:j=k:=by omega
    clear ST
    go_wp2_with fail
    go_end0
    exact ⟨rfl,hA.out,hB⟩
set_option maxHeartbeats 4000000 in
theorem nround (B r k:Nat) (a b:Int) (L:List Int) (hk:k≤3333) (ha: -500000000≤a∧a≤500000000) (hb: -500000000≤b∧b≤500000000) (hL:L.length+6*k≤36000) (w:World) (h:At6 B (r:Int) a (b - k) L w) (hT:Tabs w) (g0:2 < B) (g1:0 < B) :
 Calls Tryz.prog 75 #[.pointer (some ⟨B,0,none⟩),.int .i64 (k:Int)] w fun e w'=>e=.returned (.tuple #[])∧At6 B (r:Int) a (b - k) (L++wordsAt r a b (rngP k)) w'∧Below B w w':=by
 have hT0:Hid (Tabs w):=hT
 by_cases hk0:k=0
 · subst hk0
   have e1:wordsAt r a b (rngP 0)=wordAt r a (b - ((0:Nat):Int)):=by
    rw [show rngP 0=[(0,0)] from rfl,wordsAt_one,show a+((0:Int),(0:Int)).1=a from Int.add_zero a,show b+((0:Int),(0:Int)).2=b - ((0:Nat):Int) by show b+0=b - 0;omega]
   rw [e1]
   have TK:=hidd (ntake B r a (b - ((0:Nat):Int)) L (by omega) w h hT)
   clear h hT e1
   go_enter Tryz.func75,Tryz.ntmps75
   go_wp2_with fail
   refine TK.out.mono ?_
   rintro e w1 ⟨rfl,a1,b1⟩
   have HR:=hidd a1
   clear a1 TK
   go_wp2_with fail
   (try simp only [Exit.inBlock,Exit.then]);refine bodyPost_ret (results_none rfl _ _ _) rfl ?_
   exact ⟨rfl,HR.out,b1⟩
 · have hkz:((k:Int) == 0)=false:=by simp;omega
   have ep:wordsAt r a b (rngP k)=wordsAt r a b (sidesP k 6):=by unfold rngP;rw [if_neg hk0]
   rw [ep]
   have SD:Hid (∀ i:Nat,i < 6→∀ wr,At6 B (r:Int) (a+sdA k i 0) (b+sdB k i 0) (L++wordsAt r a b (sidesP k i)) wr→Tabs wr→Calls Tryz.prog 73 #[.int .i64 (k:Int),.int .i64 (i:Int),.func (.func 113) #[.pointer (some ⟨B,0,none⟩)] #[]] wr fun e w' =>
    e=.returned (.tuple #[])∧At6 B (r:Int) (a+sdA k i k) (b+sdB k i k) (L++wordsAt r a b (sidesP k (i+1))) w'∧Below B wr w'):=by
    refine hidd fun i hi wr h hT=>?_
    have hl:=wordsAt_len r a b (sidesP k i)
    rw [sidesP_len] at hl
    have hm:i*k≤5*k:=Nat.mul_le_mul_right k (by omega)
    have:=nside B r k i a b _ hi hk ha hb (by rw [List.length_append];omega) wr h hT g0 g1
    rw [List.append_assoc,← wordsAt_append,← sidesP_step] at this
    exact this
   have h0:Hid (At6 B (r:Int) (a+sdA k 0 0) (b+sdB k 0 0) (L++wordsAt r a b (sidesP k 0)) w):=hidd (by
    rw [show sidesP k 0=[] from rfl,wordsAt_nil,List.append_nil,(sd_first (k:Int)).1,(sd_first (k:Int)).2,Int.add_zero,show b+-(k:Int)=b - k by omega];exact h)
   clear h hT ep ha hb
   go_enter Tryz.func75,Tryz.ntmps75
   go_wp2_with fail
   go_loopw [9] (fun v9 wr=>∃ i:Nat,i≤6∧v9=.int .i64 (i:Int)∧Hid (if i < 6 then At6 B (r:Int) (a+sdA k i 0) (b+sdB k i 0) (L++wordsAt r a b (sidesP k i)) wr else At6 B (r:Int) a (b - k) (L++wordsAt r a b (sidesP k 6)) wr)∧Below B w wr) (fun v9 _=>6 - (intOf v9).toNat)
   case atStart=>exact ⟨0,by omega,rfl,h0,Below.refl _ _⟩
   case round =>
    clear h0
    obtain ⟨i,hi,rfl,hA,hB⟩:=hrel
    by_cases hlt:i < 6
    · rw [if_pos hlt] at hA
      go_wp2_with fail
      refine (SD.out i hlt wr hA.out (hT0.out.low g0 g1 hB)).mono ?_
      rintro e w1 ⟨rfl,a1,b1⟩
      have HR:Hid (if i+1 < 6 then At6 B (r:Int) (a+sdA k (i+1) 0) (b+sdB k (i+1) 0) (L++wordsAt r a b (sidesP k (i+1))) w1 else At6 B (r:Int) a (b - k) (L++wordsAt r a b (sidesP k 6)) w1):=by
       refine hidd ?_
       split
       · rw [(sd_next (k:Int) (i:=i) (by omega)).1,(sd_next (k:Int) (i:=i) (by omega)).2];exact a1
       · obtain rfl:i=5:=by omega
         rw [(sd_last (k:Int)).1,(sd_last (k:Int)).2,Int.add_zero,show b+-(k:Int)=b - k by omega] at a1
         exact a1
      have hB1:=hB.trans b1
      clear a1 hA
      go_wp2_with fail
      go_roundw
      case rel=>exact ⟨i+1,by omega,by go_num,HR,hB1⟩
      case measure=>simp [intOf];omega
    · obtain rfl:i=6:=by omega
      rw [if_neg (by omega)] at hA
      clear SD
      go_wp2_with fail
      go_end0
      exact ⟨rfl,hA.out,hB⟩
set_option maxHeartbeats 4000000 in
theorem nmiddle_yes (v k m:Int) (hw:Whole v) (h0:0≤k) (hm:k≤m) (w:World) (hT:Tabs w) :
 Calls Tryz.prog 72 #[.int .u64 v,.int .i64 k,.int .i64 m] w fun e w'=>e=.returned (.tuple #[.agg #[.int .i64 (wR v),.int .i64 (cellA v),.int .i64 (cellB v)],.int .i64 0])∧Below w.heap.size w w':=by
 have hT0:Hid (Tabs w):=hT
 clear hT
 · have IC:Hid (∀ w,Tabs w→Calls Tryz.prog 110 #[.int .u64 v] w fun e w'=>e=.returned (.tuple #[.agg #[.int .i64 (wR v),.int .i64 (cellA v),.int .i64 (cellB v)],.int .i64 0])∧Below w.heap.size w w'):=icell_yes v hw
   have hk0:decide (k < 0)=false:=df (by omega)
   have hk1:decide (m < k)=false:=df (by omega)
   clear hw
   generalize wR v=R at *
   generalize cellA v=CA at *
   generalize cellB v=CB at *
   go_enter Tryz.func72,Tryz.ntmps72
   go_wp2_with fail
   refine (IC.out _ ?_).mono ?_
   · exact hT0.out.below (by go_grown)
   rintro e w1 ⟨rfl,d1⟩
   have c1:Below w.heap.size w w1:=Below.trans (by go_grown) (d1.mono (by simp;try omega))
   have r0:w1.cell? ⟨w.heap.size,0,none⟩=some (.int .i64 0):=keepCell d1 (by go_simp)
   have fr0:w1.frozen? ⟨w.heap.size,0,none⟩=false:=keepFrozen (v:=.int .i64 0) d1 (by go_simp) (by go_simp)
   have qr0:=World.block_lt_of_cell? _ _ r0
   have r1:w1.cell? ⟨w.heap.size,1,none⟩=some (.int .i64 0):=keepCell d1 (by go_simp)
   have fr1:w1.frozen? ⟨w.heap.size,1,none⟩=false:=keepFrozen (v:=.int .i64 0) d1 (by go_simp) (by go_simp)
   have r2:w1.cell? ⟨w.heap.size,2,none⟩=some (.int .i64 0):=keepCell d1 (by go_simp)
   have fr2:w1.frozen? ⟨w.heap.size,2,none⟩=false:=keepFrozen (v:=.int .i64 0) d1 (by go_simp) (by go_simp)
   have hB:=c1
   clear c1 d1
   obtain ⟨g0,g1,g2⟩:=three_stores (u0:=.int .i64 R) (u1:=.int .i64 CA) (u2:=.int .i64 CB) r0 r1 r2
   have e0:=keepCell (allocB _ (.cells #[.int .i64 R,.int .i64 CA,.int .i64 CB] 25)) g0
   have e1:=keepCell (allocB _ (.cells #[.int .i64 R,.int .i64 CA,.int .i64 CB] 25)) g1
   have e2:=keepCell (allocB _ (.cells #[.int .i64 R,.int .i64 CA,.int .i64 CB] 25)) g2
   go_wp2
   exact bodyPost_ret (v:=.tuple #[.agg #[.int .i64 R,.int .i64 CA,.int .i64 CB],.int .i64 0]) (by simp [results,Tryz.results72,go_sem,e0,e1,e2]) rfl ⟨rfl,(((hB.setCell (by simp) _).setCell (by simp) _).setCell (by simp) _).alloc (by simp;omega) _⟩
end Go.Proofs.YtdklpgphmoaniaaGreatDoor
