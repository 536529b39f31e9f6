/-
  What layer 8's own look at what the document fixes tells: yes; in whatever memory where the two tables hold what their texts lay.
-/
import Derived.Test.YtlfjfendlohekaaGreatDoorRKidW
import Derived.Test.YtlfjfendlohekaaGreatDoorKFree
import Derived.Test.YtlfjfendlohekaaGreatDoorJn37
namespace Go.Proofs.YtlfjfendlohekaaGreatDoor
open Go.RowKit
theorem kidL_vals8 (y:Int):kidL y 7=vals (kidRow y):=by unfold kidL vals kidRow;rw [List.map_map];rfl
theorem ok_three:Ok4 ((3:Nat):Int) 0 0:=ok4_of (by decide +kernel)
theorem packed_is {r:Nat} (hr:r≤12) {S P:List Int} {v:Int} (h:Packed r S P) (k:Packed r S [v]):P=[v]:=h.one hr k fun _=>Iff.rfl
set_option maxHeartbeats 8000000 in
set_option maxRecDepth 20000 in
theorem pawake (w:World) (hT:Tabs w):Calls Tryz.prog 9 #[] w fun e w'=>e=.returned (.bool true)∧Below w.heap.size w w':=by
 have hz:=w_eq ok_three
 have KE:=hidd fun w=>rkids_yes 3 0 0 ok_three (by omega) w
 have WE:Hid (∀ k:Nat,k < 7→∀ w,Calls Tryz.prog 27 #[.agg #[.int .i64 (kidG 3 0 0 (k*3)),.int .i64 (kidG 3 0 0 (k*3+1)),.int .i64 (kidG 3 0 0 (k*3+2))]] w fun e w'=>e=.returned (.tuple #[.int .u64 (chW (wordOf 3 0 0) k),.int .i64 0])∧Below w.heap.size w w'):=hidd fun k hk w=>by
  have hc:=child_word hz.1 (by rw [hz.2.1];omega) (show k≤6 by omega)
  have:=rword_yes _ _ _ hc.1 w
  rw [hc.2,hz.2.1,hz.2.2.1,hz.2.2.2.1] at this
  rw [kidG_0,kidG_1,kidG_2]
  exact this
 have ZW:=hidd hz.1
 have ZR:Hid (wR (wordOf 3 0 0)=((3:Nat):Int)):=hidd hz.2.1
 have HT:=hidd hT
 clear hz hT
 generalize wordOf 3 0 0=v at *
 generalize kidG 3 0 0=G at *
 go_enter Tryz.func9,Tryz.ntmps9
 go_wp2_with fail
 refine (KE.out _).mono ?_
 rintro e w2 ⟨⟨g,cap,rfl,hG⟩,hB⟩
 have hB0:=hidd hB
 have HG:=hidd hG
 clear KE hG hB
 obtain ⟨i0,hi,hz0,hz1,hz2⟩:=info_parts infoU64
 go_wp2_with fail
 go_loopw [3,4] (fun v3 v4 wr=>∃ k:Nat,k≤7∧v4=.int .i64 (k:Int)∧Hid (wr.ownsRow w2.heap.size 30 1 v3 k (kidL v k))∧Below w2.heap.size w2 wr) (fun _ v4 _=>7 - (intOf v4).toNat)
 case atStart=>exact ⟨0,by omega,rfl,World.ownsRow_nil _ _ _ _,Below.refl _ _⟩
 case round =>
  obtain ⟨k,hk,rfl,hO,hX⟩:=hrel
  have hgl:g < w2.heap.size:=World.block_lt_of_cell? _ _ (HG.out 0 (by omega))
  by_cases hlt:k < 7
  · have s0:=keepLow hX (HG.out (k*3) (by omega)) (by simp;omega)
    have s1:=keepLow hX (HG.out (k*3+1) (by omega)) (by simp;omega)
    have s2:=keepLow hX (HG.out (k*3+2) (by omega)) (by simp;omega)
    have WK:Hid _:=WE.out k hlt
    have hrow:Hid _:=kidL_step v k
    generalize G (k*3)=g0 at *
    generalize G (k*3+1)=g1 at *
    generalize G (k*3+2)=g2 at *
    generalize chW v k=x at *
    clear WE hgl
    go_wp2_with fail
    refine (WK.out _).mono ?_
    rintro e w3 ⟨rfl,d3⟩
    have hX3:=hX.trans (d3.mono hX.size)
    have hwz3:w2.heap.size≤w3.heap.size:=hX3.size
    have hO3:Hid (w3.ownsRow w2.heap.size 30 1 u3 k (kidL v k)):=own_keep d3 hO.out
    clear d3 hO hX s0 s1 s2 WK
    go_wp2_with (at_builtin;refine wpList_append_own _ rfl (.tmp 30) (.tmp 32) 24 rfl w2.heap.size 30 i0 (.int .u64 0) 1 8 Tryz.underlying24 hi hz0 hz1 hz2 rfl (by decide) _ _ _ rfl (own_keep (allocB _ _) hO3.out) ⟨w3.heap.size,0,none⟩ 1 1 [.int .u64 x] rfl rfl (one_lies _ _ rfl _ _) (one_int _ _) (by unfold maxLen;omega) (by omega) (by simp;omega) ?_)
    intro v' w5 hown hgrow _
    have hX5:=(hX3.alloc hwz3 (.cells #[.int .u64 x] 30)).grown hgrow (by simp;omega) (own_block hO3.out)
    have hO5:Hid (w5.ownsRow w2.heap.size 30 1 v' (k+1) (kidL v (k+1))):=by rw [hrow.out];exact hown
    clear hown hgrow hO3 hX3 hwz3
    go_wp2
    go_roundw
    case rel=>exact ⟨k+1,by omega,by go_num,hO5,hX5⟩
    case measure=>simp [intOf];omega
  · obtain rfl:k=7:=by omega
    obtain ⟨g',cap',rfl⟩:=own_shape hO.out (by omega)
    have hZ:=hidd (hB0.out.trans (hX.mono hB0.out.size))
    have hsZ:=hidd hZ.out.size
    rw [kidL_vals8] at hO
    have hr12:wR v < 12:=by rw [ZR.out];omega
    have L1:=hidd (Lst.own hO.out)
    have CM:=hidd (p_compact _ (kidRow v) (by rw [kidRow_len];omega) (kidRow_u64 ZW.out hr12) wr L1.out)
    clear WE hgl hO hX hB0 HG
    go_wp2_with fail
    refine CM.out.mono ?_
    rintro e w3 ⟨hc,b3⟩
    obtain ⟨sl,P,rfl,hP,-,hP2,hP3,hP4⟩:=cmp_yes (r:=4) (fun x hx=>⟨((kidRow_all ZW.out ZR.out (by omega)).1 hx).1,((kidRow_all ZW.out ZR.out (by omega)).1 hx).2.1⟩) (by rw [kidRow_len];omega) hc
    obtain rfl:=packed_is (by omega) hP (packed_kids ZW.out ZR.out (by omega))
    obtain ⟨pp,cp,rfl,-,-⟩:=id hP2
    have hs3:=b3.size
    have L3:=hidd (L1.out.keep b3)
    have P3:=hidd hP2
    have O3:=hidd hP4
    have A3:=hidd hP3
    have Z3:=hidd (belowT hZ.out b3)
    have T3:=hidd (HT.out.below Z3.out)
    have uv:Hid (∀ x∈[v],U64 x):=hidd fun x hx=>by
     rw [List.mem_singleton] at hx;subst hx
     have:=whole_box ZW.out
     exact ⟨by omega,by omega⟩
    have SP:=hidd (p_spread _ [v] 4 (by omega) (by simp) uv.out w3 P3.out T3.out)
    clear hc hP hP2 hP3 hP4 CM hZ b3 L1
    simp only [List.length_singleton] at *
    go_wp2_with fail
    refine SP.out.mono ?_
    rintro e w4 ⟨hs,b4⟩
    obtain ⟨s4,K,rfl,-,-,hlen,hl4,-⟩:=spr_one (m:=4) ZW.out ZR.out (by omega) (by omega) (by decide) hs
    obtain ⟨p4,c4,rfl,-,-⟩:=hl4
    have e7:K.length=7:=by have h:(K.length:Int)=7^1:=hlen;simp at h;omega
    rw [e7]
    have hs4:wr.heap.size≤w4.heap.size:=by have:=b4.size;omega
    have L4:=hidd (L3.out.keep b4)
    have O4:=hidd (own_keep b4 O3.out)
    have Z4:=hidd (belowT Z3.out b4)
    have FR:=hidd (p_free _ (kidRow v) (by rw [kidRow_len];omega) (kidRow_u64 ZW.out hr12) true (by simp only [true_iff];exact free_kids ZW.out hr12 (kidRow_nodup v) fun _ h=>h) w4 L4.out)
    clear hs b4 hlen e7 SP L3 O3 Z3 P3 T3
    go_wp2_with fail
    refine FR.out.mono ?_
    rintro e w5 ⟨rfl,b5⟩
    have L5:=hidd (L4.out.keep b5)
    have O5:=hidd (own_keep b5 O4.out)
    have Z5:=hidd (belowT Z4.out b5)
    have hs5:wr.heap.size≤w5.heap.size:=by have:=b5.size;omega
    have hsw:=hsZ.out
    clear FR b5 L4 O4 Z4
    go_wp2_with (at_builtin;refine wpList_append_lst (by rfl) (.tmp 65) (.tmp 66) rfl wr.heap.size _ 1 (vals [v]) rfl O5.out _ (kidRow v) rfl L5.out (.inr ⟨_,_,_,rfl⟩) (by rw [kidRow_len];omega) hs5 ?_)
    intro v6 w6 hown hgrow
    have Z6:=hidd (Z5.out.grown hgrow (by omega) (own_block (own_mono O5.out hsw)))
    rw [← vals_app,kidRow_len] at hown
    have L6:=hidd (Lst.own hown)
    have FR:=hidd (p_free _ ([v]++kidRow v) (by rw [List.length_append,kidRow_len];simp) (fun x hx=>(List.mem_append.1 hx).elim (uv.out x) (kidRow_u64 ZW.out hr12 x)) false (by simpa using not_free_kid ZW.out hr12 (d:=0) (by omega) (List.mem_append.2 (.inl (List.mem_singleton.2 rfl))) (List.mem_append.2 (.inr (kidRow_mem.2 ⟨0,by omega,rfl⟩)))) w6 L6.out)
    obtain ⟨p6,c6,rfl,-⟩:=own_slice hown
    clear hown hgrow L5 O5 Z5
    go_wp2_with fail
    refine FR.out.mono ?_
    rintro e w7 ⟨rfl,b7⟩
    have Z7:=hidd (belowT Z6.out b7)
    clear FR b7
    go_wp2_with fail
    go_ret
    exact ⟨rfl,Z7.out⟩
end Go.Proofs.YtlfjfendlohekaaGreatDoor
