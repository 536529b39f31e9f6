/-
  Plain facts on what some words come to, packed: one word's words, six of seven brothers; what Spread and Size tell of lists of coarser words.
-/
import Derived.Test.YtlfjfendlohekaaGreatDoorKSpr
import Derived.Test.YtlfjfendlohekaaGreatDoorJn13
namespace Go.Proofs.YtlfjfendlohekaaGreatDoor
open Go.RowKit
theorem cov_one {v x:Int}:Cov [v] x↔Above v x:=by
 unfold Cov
 constructor
 · rintro ⟨p,hp,ha⟩;rw [List.mem_singleton] at hp;exact hp ▸ ha
 · exact fun h=>⟨v,List.mem_singleton.2 rfl,h⟩
theorem within_one {v:Int} {m:Nat} (h:Whole v) (hr:wR v≤(m:Int)):WithinR m [v]:=fun x hx=>by rw [List.mem_singleton] at hx;subst hx;exact ⟨h,hr⟩
theorem packed_single {v:Int} {m:Nat} {S:List Int} (h:Whole v) (hr:wR v≤(m:Int)) (hS:∀ x,x∈S↔Whole x∧wR x=(m:Int)∧Above v x):Packed m S [v]:=by
 refine ⟨by simp [Rising],within_one h hr,fun p hp q hq _=>?_,fun u hu hur hall=>?_,fun x hx hxr=>?_⟩
 · rw [List.mem_singleton] at hp hq;rw [hp,hq]
 · have h0:=hall 0 (by omega)
   have h1:=hall 1 (by omega)
   rw [List.mem_singleton] at h0 h1
   have:=kids_rise (v:=u) (d:=0) (e:=1) (by omega) (by omega)
   omega
 · rw [cov_one,hS x]
   exact ⟨fun h=>⟨hx,hxr,h⟩,fun h=>h.2.2⟩
theorem kin_one {v x:Int}:x∈kin 1 v↔x∈kidRow v:=by
 show x∈(kidRow v).flatMap (kin 0)↔_
 simp [kin]
theorem kidRow_all {v x:Int} (h:Whole v) {n:Nat} (hn:wR v=(n:Int)) (h12:n < 12):x∈kidRow v↔Whole x∧wR x=((n+1:Nat):Int)∧Above v x:=by
 rw [← kin_one,mem_kin 1 h (by omega),hn]
 exact Iff.rfl
theorem packed_kids {v:Int} (h:Whole v) {n:Nat} (hn:wR v=(n:Int)) (h12:n < 12):Packed (n+1) (kidRow v) [v] :=
 packed_single h (by omega) fun _=>kidRow_all h hn h12
theorem kidRow_rising (v:Int):Rising (kidRow v):=by
 unfold kidRow Rising
 refine List.pairwise_map.2 ((List.pairwise_lt_range (n:=7)).imp_of_mem fun {a b} ha hb hab=>kids_rise hab (by have:=List.mem_range.1 hb;omega))
theorem kidRow_u64 {v:Int} (h:Whole v) (hr:wR v < 12):∀ x∈kidRow v,U64 x:=fun x hx=>by
 obtain ⟨d,hd,rfl⟩:=kidRow_mem.1 hx
 have:=whole_box (kid_whole h hr hd).1
 exact ⟨by omega,by omega⟩
theorem free_kids {v:Int} (h:Whole v) (hr:wR v < 12) {L:List Int} (hL:L.Nodup) (hs:∀ x∈L,x∈kidRow v):FreeP L:=by
 have hk:∀ x∈L,Whole x∧wR x=(((wR v).toNat+1:Nat):Int):=fun x hx=>by
  obtain ⟨d,hd,rfl⟩:=kidRow_mem.1 (hs x hx)
  have hk:=kid_whole h hr hd
  have hb:=wR_box v
  exact ⟨hk.1,by rw [hk.2.1];omega⟩
 exact ⟨hL,fun x hx=>(hk x hx).1,anti_same hk⟩
theorem not_free_kid {v:Int} (h:Whole v) (hr:wR v < 12) {d:Nat} (hd:d≤6) {L:List Int} (h1:v∈L) (h2:chW v d∈L):¬ FreeP L:=fun hf=>by
 have hk:=kid_whole h hr hd
 have:=hf.2.2 v h1 _ h2 (above_kid h hr hd)
 omega
theorem packed_six {v:Int} (h:Whole v) {n:Nat} (hn:wR v=(n:Int)) (h12:n < 12) {S:List Int} (hR:Rising S) (hs:∀ x∈S,x∈kidRow v) {d:Nat} (hd:d≤6) (hno:¬ chW v d∈S):Packed (n+1) S S:=by
 have hk:∀ x∈S,Whole x∧wR x=((n+1:Nat):Int):=fun x hx=>by
  have:=(kidRow_all h hn h12).1 (hs x hx)
  exact ⟨this.1,this.2.1⟩
 refine ⟨hR,fun x hx=>⟨(hk x hx).1,by rw [(hk x hx).2];omega⟩,anti_same hk,fun u hu hur hall=>?_,fun x hx hxr=>cov_same hk hx hxr⟩
 obtain ⟨e,he,h0⟩:=kidRow_mem.1 (hs _ (hall 0 (by omega)))
 have h1:=(kid_whole hu hur (d:=0) (by omega)).2.2.1
 have h2:=(kid_whole h (by omega) he).2.2.1
 rw [h0,h2] at h1
 subst h1
 exact hno (hall d hd)
theorem spr_yes {L:List Int} {m:Nat} (hm:m≤12) (hL:WithinR m L) (hc:cntR m L≤20000) {e:Ending} {w':World} (h:TellsSpr L (m:Int) e w') :
 ∃ (sl:Value) (K:List Int),e=.returned (.tuple #[sl,.int .i64 0])∧Rising K∧(∀ x,x∈K↔Whole x∧wR x=(m:Int)∧Cov L x)∧K.length≤20000∧Lst w' sl K∧Addressed sl:=by
 obtain ⟨z,t,hz,h⟩:=h
 have hz':SizeT L (m:Int) (cntR m L) 0:=.inr (.inr (.inr ⟨m,rfl,hm,hL,.inr ⟨by omega,rfl,rfl⟩⟩))
 obtain ⟨rfl,rfl⟩:=hz.one hz'
 rcases h with ⟨h,_⟩ | ⟨_,h,_⟩ | ⟨_,_,m',e,sl,K,h1,h2,h3,h4,h5,h6⟩
 · exact absurd rfl h
 · omega
 · obtain rfl:m=m':=by omega
   exact ⟨sl,K,h1,h2,fun x=>by rw [h3 x,mem_kinR hm hL],h4,h5,h6⟩
theorem size_yes {L:List Int} {m:Nat} (hm:m≤12) (hL:WithinR m L) (hc:cntR m L≤1099511627776) {z t:Int} (h:SizeT L (m:Int) z t):z=cntR m L∧t=0 :=
 h.one (.inr (.inr (.inr ⟨m,rfl,hm,hL,.inr ⟨hc,rfl,rfl⟩⟩)))
theorem spr_len {L K:List Int} {m:Nat} (hm:m≤12) (hL:WithinR m L) (hA:Anti L) (hn:L.Nodup) (hR:Rising K) (hK:∀ x,x∈K↔Whole x∧wR x=(m:Int)∧Cov L x):(K.length:Int)=cntR m L:=by
 rw [cntR_len,nodup_ext_len (rising_nodup hR) (kinR_nodup hm hL hA hn) fun x=>by rw [hK x,mem_kinR hm hL]]
theorem cnt_one (m:Nat) {v:Int} {n:Nat} (hn:wR v=(n:Int)):cntR m [v]=7^(m - n):=by
 show 7^(m - (wR v).toNat)+0=_
 rw [hn];simp
theorem anti_one (v:Int):Anti [v]:=fun p hp q hq _=>by rw [List.mem_singleton] at hp hq;rw [hp,hq]
theorem spr_one {v:Int} {n m:Nat} (h:Whole v) (hn:wR v=(n:Int)) (h1:n≤m) (hm:m≤12) (hc:(7:Int)^(m - n)≤20000) {e:Ending} {w':World} (hs:TellsSpr [v] (m:Int) e w') :
 ∃ (sl:Value) (K:List Int),e=.returned (.tuple #[sl,.int .i64 0])∧Rising K∧(∀ x,x∈K↔Whole x∧wR x=(m:Int)∧Above v x)∧(K.length:Int)=7^(m - n)∧Lst w' sl K∧Addressed sl:=by
 have hW:=within_one (m:=m) h (by omega)
 obtain ⟨sl,K,h1,h2,h3,-,h5,h6⟩:=spr_yes hm hW (by rw [cnt_one m hn];exact hc) hs
 refine ⟨sl,K,h1,h2,fun x=>by rw [h3 x,cov_one],?_,h5,h6⟩
 rw [spr_len hm hW (anti_one v) (by simp) h2 h3,cnt_one m hn]
theorem cmp_yes {C:Nat} {L:List Int} {r:Nat} (hL:∀ x∈L,Whole x∧wR x=(r:Int)) (hn:L.length≤20000) {e:Ending} {w':World} (h:TellsCmp C L e w') :
 ∃ (sl:Value) (P:List Int),e=.returned (.tuple #[sl,.int .i64 0])∧Packed r L P∧P.length≤L.length∧Lst w' sl P∧Addressed sl∧w'.ownsRow C 30 1 sl P.length (vals P):=by
 have h1:∀ x∈L,Whole x:=fun x hx=>(hL x hx).1
 rcases h with ⟨h,_⟩ | ⟨_,h,_⟩ | ⟨_,_,h,_⟩ | ⟨_,_,_,sl,P,h2,h3,h4⟩
 · omega
 · exact absurd h1 h
 · exact absurd (fun x hx y hy=>by rw [(hL x hx).2,(hL y hy).2]) h
 · exact ⟨sl,P,h2,h3 r fun x hx=>(hL x hx).2,h4⟩
theorem lit_lst (w:World) (L:List Int) (e:TypeId):Lst (w.alloc (.cells (vals L).toArray e)) (.slice (some ⟨w.heap.size,0,none⟩) L.length L.length) L:=by
 refine Lst.row (Nat.le_refl _) fun j hj=>?_
 rw [Nat.zero_add,cell_of_row _ w.heap.size j (vals L).toArray e (0,0) (by show (w.heap.push _)[w.heap.size]?=_;simp)]
 simp [vals,hj]
theorem nil_lst (w:World):Lst w (.slice none 0 0) []:=⟨none,0,rfl,Nat.le_refl _,fun _ hj=>absurd hj (Nat.not_lt_zero _)⟩
theorem lit1 (w:World) (x:Int) (e:TypeId):Lst (w.alloc (.cells #[.int .u64 x] e)) (.slice (some ⟨w.heap.size,0,none⟩) 1 1) [x]:=lit_lst w [x] e
theorem lit2 (w:World) (x y:Int) (e:TypeId):Lst (w.alloc (.cells #[.int .u64 x,.int .u64 y] e)) (.slice (some ⟨w.heap.size,0,none⟩) 2 2) [x,y]:=lit_lst w [x,y] e
theorem lit3 (w:World) (x y z:Int) (e:TypeId):Lst (w.alloc (.cells #[.int .u64 x,.int .u64 y,.int .u64 z] e)) (.slice (some ⟨w.heap.size,0,none⟩) 3 3) [x,y,z]:=lit_lst w [x,y,z] e
theorem make_zeros (w:World) (N:Nat) (hN:N≤100000):∃ w',(Instr.makeSlice 24 (.int .i64 (N:Int)) (.int .i64 (N:Int))).run Tryz.prog w=.ok (.slice (some ⟨w.heap.size,0,none⟩) N N) w' ∧
 w'.ownsRow w.heap.size 30 1 (.slice (some ⟨w.heap.size,0,none⟩) N N) N (vals (List.replicate N 0))∧w.grownBy w' none:=by
 obtain ⟨i0,hi,hz0,hz1,hz2⟩:=info_parts infoU64
 obtain ⟨w',h1,h2,h3⟩:=run_make_full (P:=Tryz.prog) w w.heap.size 24 30 i0 (.int .u64 0) 1 Tryz.underlying24 hi hz0 hz1 .i64 .i64 N (by rw [hz2];omega) (by unfold maxLen;omega) (Nat.le_refl _)
 refine ⟨w',h1,?_,h3⟩
 have e:(madeCells (Value.int .u64 0).cells (N*1)).toList=vals (List.replicate N 0):=by
  rw [Nat.mul_one,show (Value.int .u64 0).cells=#[.int .u64 0] from rfl,toList_madeCells_one]
  simp [vals]
 rw [e] at h2
 exact h2
end Go.Proofs.YtlfjfendlohekaaGreatDoor
