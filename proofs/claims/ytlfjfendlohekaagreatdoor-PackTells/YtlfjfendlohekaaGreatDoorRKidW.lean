/-
  The document's own kids: the words of a word's seven children, one behind the other; in whatever memory.
-/
import Derived.Test.YtlfjfendlohekaaGreatDoorM2C
import Derived.Test.YtlfjfendlohekaaGreatDoorJn01
import Derived.Test.YtlfjfendlohekaaGreatDoorI2C
namespace Go.Proofs.YtlfjfendlohekaaGreatDoor
open Go.RowKit
def kidL (v:Int) (k:Nat):List Value:=(List.range k).map fun d=>Value.int .u64 (chW v d)
theorem kidL_step (v:Int) (k:Nat):kidL v (k+1)=kidL v k++[.int .u64 (chW v k)]:=by unfold kidL;rw [List.range_succ,List.map_append];rfl
theorem kidL_at (v:Int) (d:Nat) (h:d < 7):(kidL v 7)[d]?=some (.int .u64 (chW v d)):=by unfold kidL;simp [h]
def TellsKW (v:Int) (e:Ending) (w':World):Prop:=∃ g cap,e=.returned (.slice (some ⟨g,0,none⟩) 7 cap)∧∀ d < 7,w'.cell? ⟨g,d,none⟩=some (.int .u64 (chW v d))
set_option maxHeartbeats 8000000 in
set_option maxRecDepth 20000 in
theorem rkidsW (v:Int) (h:Whole v) (hr:wR v < 12) (w:World) :
 Calls Tryz.prog 42 #[.int .u64 v] w fun e w'=>TellsKW v e w'∧Below w.heap.size w w':=by
 have hb:=wR_box v
 have CE:Hid _:=rwcell_yes v h
 have KE:Hid _:=rkids_yes (wR v) (cellA v) (cellB v) (cell_ok h) hr
 have WE:Hid (∀ k:Nat,k < 7→∀ w,Calls Tryz.prog 27 #[.agg #[.int .i64 (kidG (wR v) (cellA v) (cellB v) (k*3)),.int .i64 (kidG (wR v) (cellA v) (cellB v) (k*3+1)),.int .i64 (kidG (wR v) (cellA v) (cellB v) (k*3+2))]] w fun e w'=>e=.returned (.tuple #[.int .u64 (chW v k),.int .i64 0])∧Below w.heap.size w w'):=by
  intro k hk w
  have hc:=child_word h hr (show k≤6 by omega)
  have:=rword_yes _ _ _ hc.1 w
  rw [hc.2] at this
  rw [kidG_0,kidG_1,kidG_2,show wR v+1=(((wR v).toNat+1:Nat):Int) by omega]
  exact this
 clear h
 generalize hR:wR v=R at *
 generalize cellA v=A at *
 generalize cellB v=B at *
 generalize kidG R A B=G at *
 clear hR
 go_enter Tryz.func42,Tryz.ntmps42
 go_wp2_with fail
 refine (CE.out _).mono ?_
 rintro e w1 ⟨rfl,d1⟩
 have c1:Below w.heap.size w w1:=Below.trans (by go_grown) (d1.mono (by simp;try omega))
 have hB:=c1
 clear c1 d1
 go_wp2_with fail
 refine (KE.out _).mono ?_
 rintro e w2 ⟨⟨g,cap,rfl,hG⟩,d2⟩
 have c2:Below w1.heap.size w1 w2:=Below.trans (by go_grown) (d2.mono (by simp;try omega))
 replace hB:=belowT hB c2
 clear c2 d2 CE KE
 replace hG:Hid _:=hG
 have hgl:g < w2.heap.size:=World.block_lt_of_cell? _ _ (hG.out 0 (by omega))
 obtain ⟨i0,hi,hz0,hz1,hz2⟩:=info_parts infoU64
 go_wp2_with fail
 go_loopw [7,8] (fun v7 v8 wr=>∃ k:Nat,k≤7∧v8=.int .i64 (k:Int)∧Hid (wr.ownsRow w2.heap.size 30 1 v7 k (kidL v k))∧Below w2.heap.size w2 wr) (fun _ v8 _=>7 - (intOf v8).toNat)
 case atStart=>exact ⟨0,by omega,rfl,World.ownsRow_nil _ _ _ _,Below.refl _ _⟩
 case round =>
  obtain ⟨k,hk,rfl,hO,hX⟩:=hrel
  by_cases hlt:k < 7
  · have s0:=keepLow hX (hG.out (k*3) (by omega)) (by simp;omega)
    have s1:=keepLow hX (hG.out (k*3+1) (by omega)) (by simp;omega)
    have s2:=keepLow hX (hG.out (k*3+2) (by omega)) (by simp;omega)
    have WK:Hid _:=WE.out k hlt
    have hrow:Hid _:=kidL_step v k
    generalize G (k*3)=g0 at *
    generalize G (k*3+1)=g1 at *
    generalize G (k*3+2)=g2 at *
    generalize chW v k=x at *
    clear WE hgl
    go_wp2_with fail
    refine (WK.out _).mono ?_
    rintro e w3 ⟨rfl,d3⟩
    have hX3:=hX.trans (d3.mono hX.size)
    have hwz3:w2.heap.size≤w3.heap.size:=hX3.size
    have hO3:Hid (w3.ownsRow w2.heap.size 30 1 u7 k (kidL v k)):=own_keep d3 hO.out
    clear d3 hO hX s0 s1 s2 WK
    go_wp2_with (at_builtin;refine wpList_append_own _ rfl (.tmp 39) (.tmp 41) 24 rfl w2.heap.size 30 i0 (.int .u64 0) 1 8 Tryz.underlying24 hi hz0 hz1 hz2 rfl (by decide) _ _ _ rfl (own_keep (allocB _ _) hO3.out) ⟨w3.heap.size,0,none⟩ 1 1 [.int .u64 x] rfl rfl (one_lies _ _ rfl _ _) (one_int _ _) (by unfold maxLen;omega) (by omega) (by simp;omega) ?_)
    intro v' w5 hown hgrow _
    have hX5:=(hX3.alloc hwz3 (.cells #[.int .u64 x] 30)).grown hgrow (by simp;omega) (own_block hO3.out)
    have hO5:Hid (w5.ownsRow w2.heap.size 30 1 v' (k+1) (kidL v (k+1))):=by rw [hrow.out];exact hown
    clear hown hgrow hO3 hX3 hwz3
    go_wp2
    go_roundw
    case rel=>exact ⟨k+1,by omega,by go_num,hO5,hX5⟩
    case measure=>simp [intOf];omega
  · obtain rfl:k=7:=by omega
    obtain ⟨g',cap',rfl⟩:=own_shape hO.out (by omega)
    have hZ:Below w.heap.size w wr:=hB.trans (hX.mono (by have:=hB.size;omega))
    clear WE hgl
    go_wp2
    go_ret
    refine ⟨⟨g',cap',rfl,fun d hd=>?_⟩,hZ⟩
    rw [hO.out.cellAt d (by omega)]
    exact kidL_at v d hd
theorem vals_kids (L:List Int) (y:Int):vals (L++(List.range 7).map (chW y))=vals L++kidL y 7:=by unfold vals kidL;rw [List.map_append,List.map_map];rfl
theorem kidL_one (y:Int):∀ v∈kidL y 7,v.oneCell'=true:=by
 intro v hv
 obtain ⟨d,_,rfl⟩:=List.mem_map.1 hv
 rfl
theorem kidL_len (y:Int) (k:Nat):(kidL y k).length=k:=by simp [kidL]
theorem kidL_lies {w:World} {g:Nat} {y:Int} (h:∀ d < 7,w.cell? ⟨g,d,none⟩=some (.int .u64 (chW y d))):∀ j u,(kidL y 7)[j]?=some u→w.cell? ((⟨g,0,none⟩:Addr).add j)=some u:=by
 intro j u hj
 have hl:j < 7:=by rw [List.getElem?_eq_some_iff] at hj;have:=hj.1;rwa [kidL_len] at this
 rw [show (⟨g,0,none⟩:Addr).add j=⟨g,j,none⟩ by simp [Addr.add] <;>(intro h;omega),h j hl,← hj,kidL_at y j hl]
end Go.Proofs.YtlfjfendlohekaaGreatDoor
