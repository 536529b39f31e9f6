/-
  The box of some cells that layer 10 makes of numbers: a box of the world, no wider than eight widths of a cell.
-/
import Derived.Test.YtdklpgphmoaniaaGreatDoorJn21
namespace Go.Proofs.YtdklpgphmoaniaaGreatDoor
open Go.RowKit
theorem sz_box:∀ i:Fin 13,(decide (52≤szK i.val) && decide (szK i.val≤7000000))=true:=by decide
theorem sz_in {K:Nat} (hK:K≤12):52≤szK K∧szK K≤7000000:=by
 have:=sz_box ⟨K,by omega⟩
 simpa [Bool.and_eq_true,decide_eq_true_eq] using this
theorem mask32 (n:Int):bits .and .i64 n 4294967295=n%4294967296:=by
 have:=i64_mask n 32 (by omega)
 simpa using this
set_option maxHeartbeats 8000000 in
set_option maxRecDepth 20000 in
theorem lbox_core (x0 y0 w0 h0 x y wm hm p q:Int) (r K:Nat) (hK:K≤12) (hr:12 - (r:Int)=(K:Int)) (hw:InW x y) (e1:bits .and .i64 w0 4294967295=wm) (e2:bits .and .i64 h0 4294967295=hm) (ep:wm.tmod (8*szK K)=p) (eq:hm.tmod (8*szK K)=q)
 (p1:0≤p∧p < 8*szK K) (q1:0≤q∧q < 8*szK K) (PT:Hid (∀ w,Calls Tryz.prog 30 #[.int .i64 x0,.int .i64 y0] w fun e w'=>e=.returned (.tuple #[.int .i64 x,.int .i64 y])∧Below w.heap.size w w')) (w:World) :
 Calls Tryz.prog 25 #[.int .i64 x0,.int .i64 y0,.int .i64 w0,.int .i64 h0,.int .i64 (r:Int)] w fun e w'=>e=.returned (.tuple #[.agg #[.int .i64 x,.int .i64 y],.agg #[.int .i64 (min (x+p) 1073741823),.int .i64 (min (y+q) 1073741823)]])∧Below w.heap.size w w':=by
 obtain ⟨w1,w2,w3,w4⟩:=hw
 have hz:=sz_in hK
 go_enter Tryz.func25,Tryz.ntmps25
 go_wp2_with fail
 refine (PT.out _).mono ?_
 rintro e w1 ⟨rfl,d1⟩
 have c1:Below w.heap.size w w1:=Below.trans (by go_grown) (d1.mono (by simp;try omega))
 have r0:w1.cell? ⟨w.heap.size,0,none⟩=some (.int .i64 0):=keepCell d1 (by go_simp)
 have fr0:w1.frozen? ⟨w.heap.size,0,none⟩=false:=keepFrozen (v:=.int .i64 0) d1 (by go_simp) (by go_simp)
 have qr0:=World.block_lt_of_cell? _ _ r0
 have r1:w1.cell? ⟨w.heap.size,1,none⟩=some (.int .i64 0):=keepCell d1 (by go_simp)
 have fr1:w1.frozen? ⟨w.heap.size,1,none⟩=false:=keepFrozen (v:=.int .i64 0) d1 (by go_simp) (by go_simp)
 have s0:w1.cell? ⟨w.heap.size+1,0,none⟩=some (.int .i64 0):=keepCell d1 (by go_simp)
 have fs0:w1.frozen? ⟨w.heap.size+1,0,none⟩=false:=keepFrozen (v:=.int .i64 0) d1 (by go_simp) (by go_simp)
 have qs0:=World.block_lt_of_cell? _ _ s0
 have s1:w1.cell? ⟨w.heap.size+1,1,none⟩=some (.int .i64 0):=keepCell d1 (by go_simp)
 have fs1:w1.frozen? ⟨w.heap.size+1,1,none⟩=false:=keepFrozen (v:=.int .i64 0) d1 (by go_simp) (by go_simp)
 have hB:=c1
 clear c1 d1
 go_wp2_with fail
 go_loopw [12,13] (fun v12 v13 wr=>∃ (i:Nat) (S:Int),r≤i∧i≤12∧v12=.int .i64 S∧v13=.int .i64 (i:Int)∧Hid (S=szK (i - r))∧(52≤S∧S≤7000000)∧wr=w1) (fun _ v13 _=>12 - (intOf v13).toNat)
 case atStart=>exact ⟨r,52,Nat.le_refl _,by omega,rfl,rfl,hidd (by rw [Nat.sub_self];rfl),by omega,rfl⟩
 case round =>
  obtain ⟨i,S,i1,i2,rfl,rfl,eS,hS,rfl⟩:=hrel
  rcases Nat.lt_or_ge i 12 with c | c
  · have et:(S*8).tdiv 3=S*8 / 3:=Int.tdiv_eq_ediv_of_nonneg (by omega)
    have eS':Hid (S*8 / 3=szK (i+1 - r)):=hidd (by rw [show i+1 - r=(i - r)+1 by omega,eS.out];rfl)
    have hS':=sz_in (K:=i+1 - r) (by omega)
    rw [← eS'.out] at hS'
    clear eS
    go_wp2_with fail
    go_roundw
    case rel=>exact ⟨i+1,S*8 / 3,by omega,by omega,rfl,by go_num,eS',hS',trivial⟩
    case measure=>simp [intOf];omega
  · obtain rfl:i=12:=by omega
    have hE:szK K=S:=by rw [eS.out];congr 1;omega
    rw [hE] at ep eq p1 q1
    clear eS hE
    go_wp2_with fail
    have f1:IntKind.i64.wrap (8*S)=8*S:=by rw [IntKind.wrap_i64];omega
    have f2:IntKind.i64.wrap p=p:=by rw [IntKind.wrap_i64];omega
    have f3:IntKind.i64.wrap q=q:=by rw [IntKind.wrap_i64];omega
    have f4:IntKind.i64.wrap (x+p)=x+p:=by rw [IntKind.wrap_i64];omega
    have f5:IntKind.i64.wrap (y+q)=y+q:=by rw [IntKind.wrap_i64];omega
    go_quiet (fail)
    have bN:=belowN (Below.refl wr.heap.size wr) nq
    replace fr0:=keepFrozen bN r0 fr0
    replace fr1:=keepFrozen bN r1 fr1
    replace fs0:=keepFrozen bN s0 fs0
    replace fs1:=keepFrozen bN s1 fs1
    replace r0:=keepCell bN r0
    replace r1:=keepCell bN r1
    replace s0:=keepCell bN s0
    replace s1:=keepCell bN s1
    have hBN:=hB.trans (bN.mono hB.size)
    generalize wr.drewN nq=w9 at *
    obtain ⟨X,eX⟩:∃ X,min (x+p) 1073741823=X:=⟨_,rfl⟩
    obtain ⟨Y,eY⟩:∃ Y,min (y+q) 1073741823=Y:=⟨_,rfl⟩
    obtain ⟨g0,g1⟩:=two_stores (u:=.int .i64 x) (v:=.int .i64 y) r0 r1
    have t0:=store_keep (u:=.int .i64 y) (q:=⟨w.heap.size,1,none⟩) (store_keep (u:=.int .i64 x) (q:=⟨w.heap.size,0,none⟩) s0 (by simp)) (by simp)
    have t1:=store_keep (u:=.int .i64 y) (q:=⟨w.heap.size,1,none⟩) (store_keep (u:=.int .i64 x) (q:=⟨w.heap.size,0,none⟩) s1 (by simp)) (by simp)
    obtain ⟨t2,t3⟩:=two_stores (u:=.int .i64 X) (v:=.int .i64 Y) t0 t1
    have g2:=store_keep (u:=.int .i64 Y) (q:=⟨w.heap.size+1,1,none⟩) (store_keep (u:=.int .i64 X) (q:=⟨w.heap.size+1,0,none⟩) g0 (by simp)) (by simp)
    have g3:=store_keep (u:=.int .i64 Y) (q:=⟨w.heap.size+1,1,none⟩) (store_keep (u:=.int .i64 X) (q:=⟨w.heap.size+1,0,none⟩) g1 (by simp)) (by simp)
    subst eX eY
    go_wp2_with fail
    exact bodyPost_ret (v:=.tuple #[.agg #[.int .i64 x,.int .i64 y],.agg #[.int .i64 (min (x+p) 1073741823),.int .i64 (min (y+q) 1073741823)]]) (by simp [results,Tryz.results25,go_sem,g2,g3,t2,t3]) rfl ⟨rfl,(((hBN.setCell (by simp) _).setCell (by simp) _).setCell (by simp) _).setCell (by simp) _⟩
theorem lbox (x0 y0 w0 h0:Int) (r K:Nat) (hK:K≤12) (hr:12 - (r:Int)=(K:Int)):∃ l1 l2 u1 u2:Int,((0≤l1∧0≤l2∧u1 < 1073741824∧u2 < 1073741824)∧l1≤u1∧l2≤u2)∧(u1 - l1≤8*szK K∧u2 - l2≤8*szK K) ∧
 ∀ w,Calls Tryz.prog 25 #[.int .i64 x0,.int .i64 y0,.int .i64 w0,.int .i64 h0,.int .i64 (r:Int)] w fun e w'=>e=.returned (.tuple #[.agg #[.int .i64 l1,.int .i64 l2],.agg #[.int .i64 u1,.int .i64 u2]])∧Below w.heap.size w w':=by
 obtain ⟨x,y,hw,PT⟩:=point_any x0 y0
 have hz:=sz_in hK
 have hp:∀ n:Int,0≤n→0≤n.tmod (8*szK K)∧n.tmod (8*szK K) < 8*szK K:=fun n hn=>by
  rw [Int.tmod_eq_emod_of_nonneg hn]
  exact ⟨Int.emod_nonneg _ (by omega),Int.emod_lt_of_pos _ (by omega)⟩
 have p1:=hp (w0%4294967296) (by omega)
 have q1:=hp (h0%4294967296) (by omega)
 refine ⟨x,y,min (x+(w0%4294967296).tmod (8*szK K)) 1073741823,min (y+(h0%4294967296).tmod (8*szK K)) 1073741823,?_,?_,fun w=>lbox_core x0 y0 w0 h0 x y _ _ _ _ r K hK hr hw (mask32 w0) (mask32 h0) rfl rfl p1 q1 (hidd PT) w⟩
 · obtain ⟨w1,w2,w3,w4⟩:=hw
   omega
 · obtain ⟨w1,w2,w3,w4⟩:=hw
   omega
end Go.Proofs.YtdklpgphmoaniaaGreatDoor
