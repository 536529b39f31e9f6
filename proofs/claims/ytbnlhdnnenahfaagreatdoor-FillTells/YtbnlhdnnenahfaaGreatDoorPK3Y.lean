/-
  What the texts RKidW, RSize8 say, so far as this seat's proofs need it.
-/
import Derived.Test.YtbnlhdnnenahfaaGreatDoorCV2Y
import Derived.Test.YtbnlhdnnenahfaaGreatDoorI2Y
set_option maxHeartbeats 8000000
set_option maxRecDepth 20000
namespace Go.Proofs.YtbnlhdnnenahfaaGreatDoor
open Go.RowKit
def kp (v:Int)(k:Nat):List Value:=(List.range k).map fun d=>Value.int .u64 (chW v d)
theorem zf (v:Int)(k:Nat):kp v (k+1)=kp v k++[.int .u64 (chW v k)]:=by unfold kp;rw[List.range_succ,List.map_append];rfl
theorem Fk (v:Int)(d:Nat)(h:d<7):(kp v 7)[d]?=some (.int .u64 (chW v d)):=by unfold kp;simp[h]
def Er (v:Int)(e:Ending)(w':World):Prop:=∃g cap,e=.returned (.slice (some ⟨g,0,none⟩) 7 cap)/\∀d<7,w'.cell? ⟨g,d,none⟩=some (.int .u64 (chW v d))
theorem Ip (v:Int)(h:Whole v)(hr:wR v<12)(w:World) :
 Calls Tryz.prog 50 #[.int .u64 v] w fun e w'=>Er v e w'/\Below w.heap.size w w':=by
 have hb:=aE v;have CE:Hid _:=cV v h;have KE:Hid _:=zZ (wR v) (an v) (ao v) (cI h) hr;have WE:Hid (∀k:Nat,k<7->∀w,Calls Tryz.prog 73 #[.agg #[.int .i64 (fj (wR v) (an v) (ao v) (k*3)),.int .i64 (fj (wR v) (an v) (ao v) (k*3+1)),.int .i64 (fj (wR v) (an v) (ao v) (k*3+2))]] w fun e w'=>e=.returned (.tuple #[.int .u64 (chW v k),.int .i64 0])/\Below w.heap.size w w'):=by
  intro k hk w;have hc:=jp h hr (show k<=6 by omega);have:=iE _ _ _ hc.1 w;rw[hc.2]at this;rw[km,kn,ko,show wR v+1=(((wR v).toNat+1:Nat):Int)by omega];exact this
 clear h;generalize hR:wR v=R at *;generalize an v=A at *;generalize ao v=B at *;generalize fj R A B=G at *;clear hR
 go_enter Tryz.func50,Tryz.ntmps50
 go_wp2_with fail;refine(CE.out _).mono ?_;rintro e w1 ⟨rfl,d1⟩;have c1:Below w.heap.size w w1:=Below.trans (by go_grown) (d1.mono (by simp;try omega));have hB:=c1;clear c1 d1;go_wp2_with fail;refine(KE.out _).mono ?_;rintro e w2 ⟨⟨g,cap,rfl,hG⟩,d2⟩;have c2:Below w1.heap.size w1 w2:=Below.trans (by go_grown) (d2.mono (by simp;try omega));replace hB:=ae hB c2;clear c2 d2 CE KE;replace hG:Hid _:=hG;have hgl:g<w2.heap.size:=World.block_lt_of_cell? _ _ (hG.out 0 (by omega));obtain⟨i0,hi,hz0,hz1,hz2⟩:=info_parts ca;go_wp2_with fail;go_loopw [7,8] (fun v7 v8 wr=>∃k:Nat,k<=7/\v8=.int .i64 (k:Int)/\Hid (wr.ownsRow w2.heap.size 35 1 v7 k (kp v k))/\Below w2.heap.size w2 wr) (fun _ v8 _=>7-(intOf v8).toNat)
 case atStart=>exact⟨0,by omega,rfl,World.ownsRow_nil _ _ _ _,Below.refl _ _⟩
 case round =>
  obtain⟨k,hk,rfl,hO,hX⟩:=hrel;by_cases hlt:k<7
  · have s0:=aI hX (hG.out (k*3) (by omega)) (by simp;omega);have s1:=aI hX (hG.out (k*3+1) (by omega)) (by simp;omega);have s2:=aI hX (hG.out (k*3+2) (by omega)) (by simp;omega);have WK:Hid _:=WE.out k hlt;have hrow:Hid _:=zf v k;generalize G (k*3)=g0 at *;generalize G (k*3+1)=g1 at *;generalize G (k*3+2)=g2 at *;generalize chW v k=x at *;clear WE hgl;go_wp2_with fail;refine(WK.out _).mono ?_;rintro e w3 ⟨rfl,d3⟩;have hX3:=hX.trans (d3.mono hX.size);have hwz3:w2.heap.size<=w3.heap.size:=hX3.size;have hO3:Hid (w3.ownsRow w2.heap.size 35 1 u7 k (kp v k)):=ai d3 hO.out;clear d3 hO hX s0 s1 s2 WK;go_wp2_with (at_builtin;refine wpList_append_own _ rfl (.tmp 39) (.tmp 41) 22 rfl w2.heap.size 35 i0 (.int .u64 0) 1 8 Tryz.underlying22 hi hz0 hz1 hz2 rfl (by decide) _ _ _ rfl (ai (ag _ _) hO3.out) ⟨w3.heap.size,0,none⟩ 1 1 [.int .u64 x] rfl rfl (bf _ _ rfl _ _) (bK _ _) (by unfold maxLen;omega) (by omega) (by simp;omega) ?_)
    intro v' w5 hown hgrow _;have hX5:=(hX3.alloc hwz3 (.cells #[.int .u64 x] 35)).grown hgrow (by simp;omega) (aM hO3.out);have hO5:Hid (w5.ownsRow w2.heap.size 35 1 v' (k+1) (kp v (k+1))):=by rw[hrow.out];exact hown
    clear hown hgrow hO3 hX3 hwz3;go_wp2;go_roundw
    case rel=>exact⟨k+1,by omega,by go_num,hO5,hX5⟩
    case measure=>simp[intOf];omega
  · obtain rfl:k=7:=by omega
    obtain⟨g',cap',rfl⟩:=cA hO.out (by omega);have hZ:Below w.heap.size w wr:=hB.trans (hX.mono (by have:=hB.size;omega));clear WE hgl;go_wp2;go_ret;refine⟨⟨g',cap',rfl,fun d hd=>?_⟩,hZ⟩;rw[hO.out.cellAt d (by omega)];exact Fk v d hd
theorem pZ {x:Int}(h:Whole x):bits .and .u64 (x / 72057594037927936) 15=wR x:=by
 have hb:=aC h;rw[jm _ ⟨by omega,by omega⟩];rfl
end Go.Proofs.YtbnlhdnnenahfaaGreatDoor
