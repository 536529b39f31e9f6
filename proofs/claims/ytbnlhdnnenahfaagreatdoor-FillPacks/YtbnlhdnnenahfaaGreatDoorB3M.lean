/-
  What the texts Lattice, CellMath, IdentMath, IWord, URow, NearMath, Times, RefFloor, RefSize, RefRound, RParent, RCell, RKids, PowNum, RefPow, RefNear, RWord, RWCell, WDig, RBeside, RNear, TTame say, so far as this seat's proofs need it.
-/
import Derived.Test.YtbnlhdnnenahfaaGreatDoorH1M
import Derived.Test.YtbnlhdnnenahfaaGreatDoorA2M
import Derived.Test.YtbnlhdnnenahfaaGreatDoorI2M
import Derived.Lib.ItoaNum
namespace Go.Proofs.YtbnlhdnnenahfaaGreatDoor
open Go.RowKit
theorem hex_some {d s t:Int} (s0:0≤s) (s1:s < d) (t0:0≤t) (t1:t < d):Hex d s t∨Hex d s (t - d)∨Hex d (s - d) t∨Hex d (s - d) (t - d):=by
 unfold Hex
 omega
theorem hexW_some {d s t:Int} (s0:0≤s) (s1:s < d) (t0:0≤t) (t1:t < d):∃ i k,HexW d s t i k:=by
 rcases hex_some s0 s1 t0 t1 with h | h | h | h
 · exact ⟨0,0,by unfold HexW;rw [Int.zero_mul,Int.sub_zero,Int.sub_zero];exact h⟩
 · exact ⟨0,1,by unfold HexW;rw [Int.zero_mul,Int.sub_zero,Int.one_mul];exact h⟩
 · exact ⟨1,0,by unfold HexW;rw [Int.zero_mul,Int.sub_zero,Int.one_mul];exact h⟩
 · exact ⟨1,1,by unfold HexW;rw [Int.one_mul];exact h⟩
theorem mul_box {i d:Int} (i1: -1≤i) (i2:i≤2) (d1:1≤d) (d2:d≤1125899906842624): -1125899906842624≤i*d∧i*d≤2251799813685248:=by
 have c:i= -1∨i=0∨i=1∨i=2:=by omega
 rcases c with rfl | rfl | rfl | rfl <;>omega
theorem ok4_parent {r a b:Int} (h:Ok4 r a b) (hr:0 < r):Ok4 (r - 1) (parA a b) (parB a b):=ok4_ups h 1 (by omega)
theorem par_nearest (a b:Int):Nearest 7 (3*a+b) (2*b - a) (parA a b) (parB a b):=by
 have hs:=par_spec a b
 generalize parA a b=P at *
 generalize parB a b=Q at *
 rcases dig_see a b with h | h | h | h | h | h | h <;>
  (obtain ⟨-,-,hA,hB⟩:=h
   rw [hA,hB] at hs
   clear hA hB
   refine ⟨?_,fun x y hxy=>?_⟩
   · unfold HexAt Hex;omega
   · unfold HexAt Hex at hxy;omega)
theorem word_inj {r s:Nat} {a b c d:Int} (h:Ok4 (r:Int) a b) (k:Ok4 (s:Int) c d) (e:wordOf r a b=wordOf s c d):r=s∧a=c∧b=d:=by
 have h1:=(word_parts h).2.1
 have h2:=(word_parts k).2.1
 have h3:=cell_word h
 have h4:=cell_word k
 rw [e] at h1 h3
 exact ⟨by omega,by rw [← h3.1,h4.1],by rw [← h3.2,h4.2]⟩
def upW (w:Int):Int:=setD w (wR w).toNat 7 - 72057594037927936
theorem raised_word {r:Nat} {a b:Int} (h:Ok4 (r:Int) a b) (hr:0 < r):upW (wordOf r a b)=wordOf (r - 1) (parA a b) (parB a b):=by
 have hp:=word_parts h
 have h12:=h.2.1
 unfold upW
 rw [hp.2.1,show ((r:Int)).toNat=r by omega]
 unfold wordOf
 rw [setD_wd (fun j _ _=>dgs_box r a b j) 7 (by omega) (by omega)]
 obtain ⟨n,rfl⟩:∃ n,r=n+1:=⟨r - 1,by omega⟩
 rw [show n+1 - 1=n by omega,ups_step]
 have e:∀ j,1≤j→j≤12→putD (dgs (n+1) a b) (n+1) 7 j=dgs n (parA a b) (parB a b) j:=by
  intro j j1 j2
  by_cases hj:j=n+1
  · subst hj;rw [putD_at,(dgs_seven _ _ _ _).2 (by omega)]
  · rw [putD_other _ _ hj]
    unfold dgs
    by_cases hl:j≤n
    · rw [if_pos (by omega),if_pos hl,show n+1 - j=(n - j)+1 by omega,ups_step]
    · rw [if_neg (by omega),if_neg hl]
 rw [wd_congr e]
 unfold wd headD
 rw [show ((n+1:Nat):Int)=(n:Int)+1 by omega]
 omega
end Go.Proofs.YtbnlhdnnenahfaaGreatDoor
namespace Go.Proofs.YtbnlhdnnenahfaaGreatDoor
section
open Go.RowKit
set_option maxHeartbeats 1000000 in
theorem wraised_core (v R y u:Int) (hy:y - 72057594037927936=u) (y0:72057594037927936≤y) (y1:y < 18446744073709551616)
 (SZ:∀ w,Calls Tryz.prog 160 #[.int .u64 v] w fun e w'=>e=.returned (.int .i64 R)∧Below w.heap.size w w')
 (WI:∀ w,Calls Tryz.prog 102 #[.int .u64 v,.int .i64 R,.int .i64 7] w fun e w'=>e=.returned (.int .u64 y)∧Below w.heap.size w w') (w:World) :
 Calls Tryz.prog 201 #[.int .u64 v] w fun e w'=>e=.returned (.int .u64 u)∧Below w.heap.size w w':=by
 replace SZ:Hid _:=SZ
 replace WI:Hid _:=WI
 have hu:IntKind.u64.wrap (y - 72057594037927936)=u:=by rw [u64_wrap ⟨by omega,by omega⟩,hy]
 go_enter Tryz.func201,Tryz.ntmps201
 go_wp2_with fail
 refine (SZ.out _).mono ?_
 rintro e w1 ⟨rfl,d1⟩
 have c1:Below w.heap.size w w1:=Below.trans (by go_grown) (d1.mono (by simp;try omega))
 have hB:=c1
 clear c1 d1
 go_wp2_with fail
 refine (WI.out _).mono ?_
 rintro e w2 ⟨rfl,d2⟩
 have c2:Below w1.heap.size w1 w2:=Below.trans (by go_grown) (d2.mono (by simp;try omega))
 replace hB:=belowT hB c2
 clear c2 d2
 go_wp2
 go_ret
 exact ⟨by first | rfl | rw [hu],hB⟩
theorem up_box {v:Int} (hv:Whole v) (hr:0 < wR v):72057594037927936≤setD v (wR v).toNat 7∧U64 (setD v (wR v).toNat 7):=by
 have h1:=whole_box hv
 have h12:=hv.2.1
 have hu:U64 v:=⟨by omega,by omega⟩
 have hp:=pow8_box (r:=(wR v).toNat) (by omega) (by omega)
 have hd:=dg_box v (wR v).toNat
 refine ⟨?_,setD_box hu (by omega) (by omega) (by omega) (by omega)⟩
 unfold setD
 have hm:=mul_in (a:=dg v (wR v).toNat) (b:=8^(12 - (wR v).toNat)) (A:=7) (B:=8589934592) (by omega) (by omega)
 omega
theorem wraised (v:Int) (hv:Whole v) (hr:0 < wR v) (w:World) :
 Calls Tryz.prog 201 #[.int .u64 v] w fun e w'=>e=.returned (.int .u64 (upW v))∧Below w.heap.size w w':=by
 have h1:=whole_box hv
 have h12:=hv.2.1
 have hu:U64 v:=⟨by omega,by omega⟩
 have hb:=up_box hv hr
 have WI:=fun W=>wwith v 7 hu (by omega) (by omega) (wR v).toNat (by omega) (by omega) W
 rw [show (((wR v).toNat:Nat):Int)=wR v by omega] at WI
 exact wraised_core v (wR v) _ (upW v) rfl hb.1 hb.2.2 (wsize v hu) WI w
end
end Go.Proofs.YtbnlhdnnenahfaaGreatDoor
namespace Go.Proofs.YtbnlhdnnenahfaaGreatDoor
open Go.RowKit
theorem own_lies {w:World} {base g c m:Nat} {e:TypeId} {xs:List Value} (h:w.ownsRow base e 1 (.slice (some ⟨g,0,none⟩) m c) m xs):∀ j u,xs[j]?=some u→w.cell? ((⟨g,0,none⟩:Addr).add j)=some u:=by
 intro j u hj
 have hl:j < m:=by rw [List.getElem?_eq_some_iff] at hj;have:=hj.1;rw [h.1] at this;omega
 rw [show (⟨g,0,none⟩:Addr).add j=⟨g,j,none⟩ by simp [Addr.add] <;>(intro h;omega),h.cellAt j (by omega),hj]
theorem own_nil {w:World} {base:Nat}:w.ownsRow base 35 1 (.slice none 0 0) 0 (vals []):=World.ownsRow_nil _ _ _ _
theorem own_holds {w:World} {base g c m:Nat} {L:List Int} (h:w.ownsRow base 35 1 (.slice (some ⟨g,0,none⟩) m c) m (vals L)):Sort.Holds (Value.int .u64) w g 0 L.toArray:=fun j hj=>by
 have hj':j < L.length:=by simpa using hj
 have hc:=own_cells h
 rw [Nat.zero_add,hc.2.1 j hj',h.frozenAt j]
 simp [hj']
theorem sd_step (k:Int) {i:Nat} (hi:i < 6) (j:Int):sdA k i (j+1)=sdA k i j+uA i∧sdB k i (j+1)=sdB k i j+uB i:=by
 rcases six_cases hi with rfl | rfl | rfl | rfl | rfl | rfl <;>simp [sdA,sdB,uA,uB] <;>omega
theorem sd_next (k:Int) {i:Nat} (hi:i < 5):sdA k (i+1) 0=sdA k i k∧sdB k (i+1) 0=sdB k i k:=by
 rcases six_cases (show i < 6 by omega) with rfl | rfl | rfl | rfl | rfl | rfl <;>simp [sdA,sdB] <;>omega
theorem sd_first (k:Int):sdA k 0 0=0∧sdB k 0 0= -k:=⟨rfl,rfl⟩
theorem sd_last (k:Int):sdA k 5 k=0∧sdB k 5 k= -k:=⟨by simp [sdA],by simp [sdB]⟩
theorem sd_one {k:Int} {i e:Nat} {j f:Int} (hi:i < 6) (he:e < 6) (j1:1≤j) (j2:j≤k) (f1:1≤f) (f2:f≤k) (hA:sdA k i j=sdA k e f) (hB:sdB k i j=sdB k e f):i=e∧j=f:=by
 rcases six_cases hi with rfl | rfl | rfl | rfl | rfl | rfl <;>rcases six_cases he with rfl | rfl | rfl | rfl | rfl | rfl <;>simp [sdA,sdB] at hA hB ⊢ <;>omega
theorem sdP_step (k i n:Nat):sdP k i (n+1)=sdP k i n++[(sdA k i ((n:Int)+1),sdB k i ((n:Int)+1))]:=by unfold sdP;rw [List.range_succ,List.map_append];rfl
theorem sdP_nodup {k i n:Nat} (hi:i < 6) (hn:n≤k):(sdP k i n).Nodup:=by
 unfold sdP
 refine (List.pairwise_map).2 ?_
 refine (List.nodup_range (n:=n)).imp_of_mem ?_
 intro a b ha hb hne he
 have h1:=List.mem_range.1 ha
 have h2:=List.mem_range.1 hb
 have:=sd_one (k:=k) hi hi (j:=(a:Int)+1) (f:=(b:Int)+1) (by omega) (by omega) (by omega) (by omega) (congrArg Prod.fst he) (congrArg Prod.snd he)
 omega
theorem sidesP_nodup (k:Nat) {m:Nat} (hm:m≤6):(sidesP k m).Nodup:=by
 unfold sidesP
 refine (List.pairwise_flatMap).2 ⟨fun i hi=>sdP_nodup (by have:=List.mem_range.1 hi;omega) (Nat.le_refl _),?_⟩
 refine (List.nodup_range (n:=m)).imp_of_mem ?_
 intro a b ha hb hne x hx y hy he
 subst he
 obtain ⟨j,j1,j2,rfl⟩:=mem_wayP.1 hx
 obtain ⟨f,f1,f2,hf⟩:=mem_wayP.1 hy
 have h1:=List.mem_range.1 ha
 have h2:=List.mem_range.1 hb
 have:=sd_one (k:=k) (i:=a) (e:=b) (by omega) (by omega) j1 j2 f1 f2 (congrArg Prod.fst hf) (congrArg Prod.snd hf)
 exact hne this.1
theorem rngP_nodup (k:Nat):(rngP k).Nodup:=by
 unfold rngP
 split
 · simp
 · exact sidesP_nodup k (Nat.le_refl _)
theorem wordAt_len (r:Nat) (a b:Int):(wordAt r a b).length≤1:=by unfold wordAt;split <;>simp
theorem wordsAt_append (r:Nat) (a b:Int) (P Q:List (Int × Int)):wordsAt r a b (P++Q)=wordsAt r a b P++wordsAt r a b Q:=by unfold wordsAt;rw [List.flatMap_append]
theorem wordsAt_one (r:Nat) (a b:Int) (p:Int × Int):wordsAt r a b [p]=wordAt r (a+p.1) (b+p.2):=by unfold wordsAt;simp
theorem wordsAt_nil (r:Nat) (a b:Int):wordsAt r a b []=[]:=rfl
theorem wordsAt_nodup {r:Nat} (a b:Int) {P:List (Int × Int)} (h:P.Nodup):(wordsAt r a b P).Nodup:=by
 unfold wordsAt
 refine (List.pairwise_flatMap).2 ⟨fun p _=>?_,h.imp fun {p q} hne x hx y hy he=>hne ?_⟩
 · unfold wordAt;split <;>simp
 · subst he
   have h1:=mem_wordAt.1 hx
   have h2:=mem_wordAt.1 hy
   have:=word_inj h1.1 h2.1 (h1.2.symm.trans h2.2)
   exact Prod.ext (by omega) (by omega)
theorem wordsAt_cons (r:Nat) (a b:Int) (p:Int × Int) (P:List (Int × Int)):wordsAt r a b (p :: P)=wordAt r (a+p.1) (b+p.2)++wordsAt r a b P:=by unfold wordsAt;rw [List.flatMap_cons]
theorem wordsAt_len (r:Nat) (a b:Int):∀ P:List (Int × Int),(wordsAt r a b P).length≤P.length
 | []=>by simp [wordsAt]
 | p :: P=>by
  have h1:=wordsAt_len r a b P
  have h2:=wordAt_len r (a+p.1) (b+p.2)
  rw [wordsAt_cons,List.length_append,List.length_cons]
  omega
theorem rising_of_le {L:List Int} (h:L.Pairwise (·≤·)) (hn:L.Nodup):Rising L:=by
 unfold Rising
 refine (h.and hn).imp ?_
 rintro a b ⟨h1,h2⟩
 omega
theorem Rows.whole {r:Nat} {a b:Int} {P:List (Int × Int)} {L:List Int} (h:Rows r a b P L) {x:Int} (hx:x∈L):Whole x∧wR x=r:=by
 obtain ⟨p,q,-,hO,rfl⟩:=(h.mem x).1 hx
 have:=word_parts hO
 exact ⟨this.1,this.2.1⟩
end Go.Proofs.YtbnlhdnnenahfaaGreatDoor
namespace Go.Proofs.YtbnlhdnnenahfaaGreatDoor
open Go.RowKit Go.Shelf
theorem prod_bd (a b:Int) (a1: -9223372036854775808≤a) (a2:a≤9223372036854775807) (b1: -9223372036854775808≤b) (b2:b≤9223372036854775807) :
 -170141183460469231731687303715884105728≤a*b∧a*b < 170141183460469231731687303715884105728:=by
 have h:(a*b).natAbs≤9223372036854775808*9223372036854775808:=by
  rw [Int.natAbs_mul];exact Nat.mul_le_mul (by omega) (by omega)
 omega
end Go.Proofs.YtbnlhdnnenahfaaGreatDoor
namespace Go.Proofs.YtbnlhdnnenahfaaGreatDoor
open Go.RowKit
set_option maxHeartbeats 400000 in
theorem reffloor_up (a b:Int) (hb:0 < b) (hz:¬ b=0) (h:0≤a) (h2:a≤9223372036854775807) (w:World) :
 Calls Tryz.prog 165 #[.int .i64 a,.int .i64 b] w fun e w'=>e=.returned (.tuple #[.int .i64 (a / b),.int .i64 (a%b),.bool true])∧Below w.heap.size w w':=by
 have hr:0≤a%b:=Int.emod_nonneg _ hz
 go_enter Tryz.func165,Tryz.ntmps165
 go_wp2
 go_quiet (fail)
 go_wp2
 go_ret3
 exact ⟨rfl,belowN (Below.refl _ _) _⟩
set_option maxHeartbeats 400000 in
theorem reffloor_even (a b q r:Int) (hb:0 < b) (hz:¬ b=0) (_h:a < 0) (hq:a.tdiv b=q) (hr:a.tmod b=r) (q1: -9223372036854775808≤q) (q2:q≤9223372036854775807) (r1: -9223372036854775808≤r) (r2:r≤9223372036854775807) (h0:0≤r) (w:World) :
 Calls Tryz.prog 165 #[.int .i64 a,.int .i64 b] w fun e w'=>e=.returned (.tuple #[.int .i64 q,.int .i64 r,.bool true])∧Below w.heap.size w w':=by
 go_enter Tryz.func165,Tryz.ntmps165
 go_wp2
 go_quiet (fail)
 go_wp2
 go_ret3
 exact ⟨rfl,belowN (Below.refl _ _) _⟩
set_option maxHeartbeats 400000 in
theorem reffloor_odd (a b q r:Int) (hb:0 < b) (hz:¬ b=0) (_h:a < 0) (hq:a.tdiv b=q) (hr:a.tmod b=r) (q1: -9223372036854775807≤q) (q2:q≤9223372036854775807) (r1: -9223372036854775808≤r) (r2:r+b≤9223372036854775807) (h0:r < 0) (w:World) :
 Calls Tryz.prog 165 #[.int .i64 a,.int .i64 b] w fun e w'=>e=.returned (.tuple #[.int .i64 (q - 1),.int .i64 (r+b),.bool true])∧Below w.heap.size w w':=by
 go_enter Tryz.func165,Tryz.ntmps165
 go_wp2
 go_quiet (fail)
 go_wp2
 go_ret3
 exact ⟨rfl,belowN (Below.refl _ _) _⟩
theorem reffloor_any (a b:Int) (a1: -9223372036854775808≤a) (a2:a≤9223372036854775807) (hb:0 < b) (b2:b≤9223372036854775807) (w:World) :
 Calls Tryz.prog 165 #[.int .i64 a,.int .i64 b] w fun e w'=>e=.returned (.tuple #[.int .i64 (a / b),.int .i64 (a%b),.bool true])∧Below w.heap.size w w':=by
 by_cases h:0≤a
 · exact reffloor_up a b hb (by omega) h a2 w
 · have e:=Int.mul_tdiv_add_tmod a b
   have q:=tdiv_bd (a:=b) a1 a2 (by omega)
   have r1:a.tmod b= -((-a)%b):=by
    have:=Int.neg_tmod (-a) b
    rw [Int.neg_neg] at this
    rw [this,Int.tmod_eq_emod_of_nonneg (by omega)]
   have r2:=Int.emod_nonneg (-a) (b:=b) (by omega)
   have r3:=Int.emod_lt_of_pos (-a) hb
   by_cases h0:0≤a.tmod b
   · have u:=(Int.ediv_emod_unique (a:=a) (r:=a.tmod b) (q:=a.tdiv b) hb).2 ⟨by omega,h0,by omega⟩
     rw [u.1,u.2]
     exact reffloor_even a b _ _ hb (by omega) (by omega) rfl rfl q.1 q.2 (by omega) (by omega) h0 w
   · have u:=(Int.ediv_emod_unique (a:=a) (r:=a.tmod b+b) (q:=a.tdiv b - 1) hb).2 ⟨by rw [Int.mul_sub];omega,by omega,by omega⟩
     rw [u.1,u.2]
     have q1: -9223372036854775807≤a.tdiv b:=by
      by_cases hm:a.tdiv b= -9223372036854775808
      · exfalso
        rw [hm] at e
        omega
      · omega
     exact reffloor_odd a b _ _ hb (by omega) (by omega) rfl rfl q1 q.2 (by omega) (by omega) (by omega) w
set_option maxHeartbeats 400000 in
theorem size_any (n:Int) (n1: -9223372036854775808 < n) (n2:n≤9223372036854775807) (w:World) :
 Calls Tryz.prog 202 #[.int .i64 n] w fun e w'=>e=.returned (.int .i64 (n.natAbs:Int))∧w'=w:=by
 by_cases h:n < 0
 · have e:(n.natAbs:Int)= -n:=by omega
   rw [e]
   go_enter Tryz.func202,Tryz.ntmps202
   go_wp2
   go_ret
   exact ⟨rfl,rfl⟩
 · have e:(n.natAbs:Int)=n:=by omega
   rw [e]
   go_enter Tryz.func202,Tryz.ntmps202
   go_wp2
   go_ret
   exact ⟨rfl,rfl⟩
def hexB (d s t:Int):Bool:=decide ((2*s+t).natAbs≤d.toNat∧(s+2*t).natAbs≤d.toNat∧(s - t).natAbs≤d.toNat)
theorem hexB_yes {d s t:Int} (hd:0≤d):hexB d s t=true↔Hex d s t:=by
 unfold hexB Hex
 rw [decide_eq_true_iff]
 omega
set_option maxHeartbeats 1000000 in
theorem holds_any (s t d:Int) (s1: -9007199254740992≤s) (s2:s≤9007199254740992) (t1: -9007199254740992≤t) (t2:t≤9007199254740992) (hd:0≤d) (w:World) :
 Calls Tryz.prog 166 #[.int .i64 s,.int .i64 t,.int .i64 d] w fun e w'=>e=.returned (.bool (hexB d s t))∧w'=w:=by
 obtain ⟨x,hx⟩:∃ x:Int,((2*s+t).natAbs:Int)=x:=⟨_,rfl⟩
 obtain ⟨y,hy⟩:∃ y:Int,((s+2*t).natAbs:Int)=y:=⟨_,rfl⟩
 obtain ⟨z,hz⟩:∃ z:Int,((s - t).natAbs:Int)=z:=⟨_,rfl⟩
 have HB:Hid (hexB d s t=decide (x≤d∧y≤d∧z≤d)):=by
  show hexB d s t=_
  unfold hexB
  congr 1
  apply propext
  omega
 by_cases h1:x≤d
 · by_cases h2:y≤d
   · by_cases h3:z≤d
     · have HR:Hid (hexB d s t=true):=by show _;rw [HB.out];exact decide_eq_true ⟨h1,h2,h3⟩
       clear HB
       go_enter Tryz.func166,Tryz.ntmps166
       go_wp2_with (go_at_call 202;refine (size_any _ (by omega) (by omega) _).mono ?_;rintro e w' ⟨rfl,rfl⟩)
       go_ret
       exact ⟨by rw [HR.out];rfl,rfl⟩
     · have HR:Hid (hexB d s t=false):=by show _;rw [HB.out];exact decide_eq_false (by omega)
       clear HB
       have h3':=df h3
       go_enter Tryz.func166,Tryz.ntmps166
       go_wp2_with (go_at_call 202;refine (size_any _ (by omega) (by omega) _).mono ?_;rintro e w' ⟨rfl,rfl⟩)
       go_ret
       exact ⟨by rw [HR.out];rfl,rfl⟩
   · have HR:Hid (hexB d s t=false):=by show _;rw [HB.out];exact decide_eq_false (by omega)
     clear HB
     have h2':=df h2
     go_enter Tryz.func166,Tryz.ntmps166
     go_wp2_with (go_at_call 202;refine (size_any _ (by omega) (by omega) _).mono ?_;rintro e w' ⟨rfl,rfl⟩)
     go_ret
     exact ⟨by rw [HR.out];rfl,rfl⟩
 · have HR:Hid (hexB d s t=false):=by show _;rw [HB.out];exact decide_eq_false (by omega)
   clear HB
   have h1':=df h1
   go_enter Tryz.func166,Tryz.ntmps166
   go_wp2_with (go_at_call 202;refine (size_any _ (by omega) (by omega) _).mono ?_;rintro e w' ⟨rfl,rfl⟩)
   go_ret
   exact ⟨by rw [HR.out];rfl,rfl⟩
set_option maxHeartbeats 1000000 in
theorem refround_see (u v d:Int) (u1: -1152921504606846976≤u) (u2:u≤1152921504606846976) (v1: -1152921504606846976≤v) (v2:v≤1152921504606846976) (d1:1≤d) (d2:d≤1125899906842624) (w:World) :
 Calls Tryz.prog 117 #[.agg #[.int .i64 u,.int .i64 v],.int .i64 d] w fun e w'=>TellsR d u v e∧Below w.heap.size w w':=by
 have q1: -1152921504606846976≤u / d∧u / d≤1152921504606846976:=div_box u1 u2 d1
 have q2: -1152921504606846976≤v / d∧v / d≤1152921504606846976:=div_box v1 v2 d1
 have r1:=Int.emod_nonneg u (b:=d) (by omega)
 have r2:=Int.emod_lt_of_pos u (b:=d) (by omega)
 have r3:=Int.emod_nonneg v (b:=d) (by omega)
 have r4:=Int.emod_lt_of_pos v (b:=d) (by omega)
 have E1:Hid (u=d*(u / d)+u%d):=(Int.mul_ediv_add_emod u d).symm
 have E2:Hid (v=d*(v / d)+v%d):=(Int.mul_ediv_add_emod v d).symm
 have F1:∀ w,Calls Tryz.prog 165 #[.int .i64 u,.int .i64 d] w fun e w'=>e=.returned (.tuple #[.int .i64 (u / d),.int .i64 (u%d),.bool true])∧Below w.heap.size w w':=reffloor_any u d (by omega) (by omega) (by omega) (by omega)
 have F2:∀ w,Calls Tryz.prog 165 #[.int .i64 v,.int .i64 d] w fun e w'=>e=.returned (.tuple #[.int .i64 (v / d),.int .i64 (v%d),.bool true])∧Below w.heap.size w w':=reffloor_any v d (by omega) (by omega) (by omega) (by omega)
 generalize u / d=a at q1 E1 F1
 generalize v / d=b at q2 E2 F2
 generalize u%d=s at r1 r2 E1 F1
 generalize v%d=t at r3 r4 E2 F2
 replace F1:Hid _:=F1
 replace F2:Hid _:=F2
 go_enter Tryz.func117,Tryz.ntmps117
 go_wp2_with fail
 refine (F1.out _).mono ?_
 rintro e w1 ⟨rfl,c1⟩
 have d0:w1.cell? ⟨w.heap.size,0,none⟩=some (.int .i64 u):=by rw [c1.cell (p:=⟨w.heap.size,0,none⟩) (by simp;omega)];go_simp
 have d1:w1.cell? ⟨w.heap.size,1,none⟩=some (.int .i64 v):=by rw [c1.cell (p:=⟨w.heap.size,1,none⟩) (by simp;omega)];go_simp
 go_wp2_with fail
 refine (F2.out _).mono ?_
 rintro e w2 ⟨rfl,c2⟩
 have e0:w2.cell? ⟨w.heap.size+1,0,none⟩=some (.int .i64 0):=by
  rw [c2.cell (p:=⟨w.heap.size+1,0,none⟩) (by have:=c1.size;simp at this;show w.heap.size+1 < w1.heap.size;omega),c1.cell (p:=⟨w.heap.size+1,0,none⟩) (by simp)];go_simp
 have e1:w2.cell? ⟨w.heap.size+1,1,none⟩=some (.int .i64 0):=by
  rw [c2.cell (p:=⟨w.heap.size+1,1,none⟩) (by have:=c1.size;simp at this;show w.heap.size+1 < w1.heap.size;omega),c1.cell (p:=⟨w.heap.size+1,1,none⟩) (by simp)];go_simp
 have f0:w2.frozen? ⟨w.heap.size+1,0,none⟩=false:=by
  rw [c2.frozen (p:=⟨w.heap.size+1,0,none⟩) (by have:=c1.size;simp at this;show w.heap.size+1 < w1.heap.size;omega),c1.frozen (p:=⟨w.heap.size+1,0,none⟩) (by simp)];go_simp
 have f1:w2.frozen? ⟨w.heap.size+1,1,none⟩=false:=by
  rw [c2.frozen (p:=⟨w.heap.size+1,1,none⟩) (by have:=c1.size;simp at this;show w.heap.size+1 < w1.heap.size;omega),c1.frozen (p:=⟨w.heap.size+1,1,none⟩) (by simp)];go_simp
 have BW:Hid (Below w.heap.size w w2):=by
  have h1:Below w.heap.size w w1:=(((Below.refl _ _).alloc (Nat.le_refl _) _).alloc (by simp) _).trans (c1.mono (by simp;omega))
  exact h1.trans (c2.mono h1.size)
 clear c1 c2 d0 d1 F1 F2
 go_wp2_with fail
 go_loop [12] (fun vi=>∃ i:Int,-1≤i∧i≤3∧vi=.int .i64 i∧Hid (∀ i' k',i' < i→¬ HexW d s t i' k')) (fun vi=>(3 - intOf vi).toNat)
 case atStart=>exact ⟨-1,by omega,by omega,rfl,fun i' k' hi h=>by have:=hex_window r1 r2 r3 r4 h;omega⟩
 case round =>
  obtain ⟨i,i1,i2,rfl,HI⟩:=hrel
  by_cases hi:i≤2
  · obtain ⟨bi1,bi2⟩:=mul_box i1 hi d1 d2
    go_wp2_with fail
    go_loop [13] (fun vk=>∃ k:Int,-1≤k∧k≤3∧vk=.int .i64 k∧Hid (∀ k',k' < k→¬ HexW d s t i k')) (fun vk=>(3 - intOf vk).toNat)
    case atStart=>exact ⟨-1,by omega,by omega,rfl,fun k' hk h=>by have:=hex_window r1 r2 r3 r4 h;omega⟩
    case round =>
     obtain ⟨k,k1,k2,rfl,HK⟩:=hrel
     by_cases hk:k≤2
     · obtain ⟨bk1,bk2⟩:=mul_box k1 hk d1 d2
       cases hB:hexB d (s - i*d) (t - k*d) with
       | true =>
        have HB:Hid (hexB d (s - i*d) (t - k*d)=true):=hB
        clear hB
        obtain ⟨g0,g1⟩:=two_stores (u:=.int .i64 (a+i)) (v:=.int .i64 (b+k)) e0 e1
        go_wp2_with fail
        refine (holds_any (s - i*d) (t - k*d) d (by omega) (by omega) (by omega) (by omega) (by omega) _).mono ?_
        rw [HB.out]
        rintro e w3 ⟨rfl,rfl⟩
        go_wp2
        refine bodyPost_ret (v:=.tuple #[.agg #[.int .i64 (a+i),.int .i64 (b+k)],.bool true]) (by simp [results,Tryz.results117,go_sem,g0,g1]) rfl ⟨⟨a+i,b+k,rfl,nearest_of E1.out E2.out ((hexB_yes (by omega)).1 HB.out) (fun i' k' h=>?_)⟩,(BW.out.setCell (by simp) _).setCell (by simp) _⟩
        by_cases hlt:i' < i
        · exact absurd h (HI.out i' k' hlt)
        · by_cases he:i'=i
          · subst he
            by_cases hkl:k' < k
            · exact absurd h (HK.out k' hkl)
            · omega
          · omega
       | false =>
        have HB:Hid (hexB d (s - i*d) (t - k*d)=false):=hB
        clear hB
        go_wp2_with fail
        refine (holds_any (s - i*d) (t - k*d) d (by omega) (by omega) (by omega) (by omega) (by omega) _).mono ?_
        rw [HB.out]
        rintro e w3 ⟨rfl,rfl⟩
        go_wp2
        go_round
        case rel =>
         refine ⟨k+1,by omega,by omega,rfl,fun k' hk' h=>?_⟩
         by_cases he:k'=k
         · subst he
           have:=(hexB_yes (show 0≤d by omega)).2 h
           rw [HB.out] at this
           cases this
         · exact HK.out k' (by omega) h
        case measure=>simp [intOf];omega
     · have hk':¬ k < 3:=by omega
       go_wp2
       go_round
       case rel =>
        refine ⟨i+1,by omega,by omega,rfl,fun i' k' hi' h=>?_⟩
        by_cases he:i'=i
        · subst he
          have hw:=hex_window r1 r2 r3 r4 h
          exact HK.out k' (by omega) h
        · exact HI.out i' k' (by omega) h
       case measure=>simp [intOf];omega
  · exfalso
    obtain ⟨i',k',h⟩:=hexW_some r1 r2 r3 r4
    have hw:=hex_window r1 r2 r3 r4 h
    exact HI.out i' k' (by omega) h
theorem unit_part (k d:Nat) (hk:k < 6) (hd:d≤6):(unitA (k:Int)=ptA (d:Int)∧unitB (k:Int)=ptB (d:Int))↔d=k+1:=by
 have ck:k=0∨k=1∨k=2∨k=3∨k=4∨k=5:=by omega
 have cd:d=0∨d=1∨d=2∨d=3∨d=4∨d=5∨d=6:=by omega
 rcases ck with rfl | rfl | rfl | rfl | rfl | rfl <;>rcases cd with rfl | rfl | rfl | rfl | rfl | rfl | rfl <;>decide
theorem refround_at (u v d P Q:Int) (u1: -1152921504606846976≤u) (u2:u≤1152921504606846976) (v1: -1152921504606846976≤v) (v2:v≤1152921504606846976) (d1:1≤d) (d2:d≤1125899906842624) (hn:Nearest d u v P Q) (w:World) :
 Calls Tryz.prog 117 #[.agg #[.int .i64 u,.int .i64 v],.int .i64 d] w fun e w'=>e=.returned (.tuple #[.agg #[.int .i64 P,.int .i64 Q],.bool true])∧Below w.heap.size w w':=by
 refine (refround_see u v d u1 u2 v1 v2 d1 d2 w).mono ?_
 rintro e w' ⟨⟨a',b',rfl,hn'⟩,hb⟩
 obtain ⟨rfl,rfl⟩:=nearest_one hn hn'
 exact ⟨rfl,hb⟩
set_option maxHeartbeats 4000000 in
theorem rparent_core (a b A B P Q C D X Y:Int) (d:Nat) (hd:d≤6) (hX:ptA (d:Int)=X) (hY:ptB (d:Int)=Y) (eX:a - C=X) (eY:b - D=Y) (a1: -1073741824≤a) (a2:a≤1073741824) (b1: -1073741824≤b) (b2:b≤1073741824) (c1: -9007199254740992≤C) (c2:C≤9007199254740992) (d1: -9007199254740992≤D) (d2:D≤9007199254740992)
 (M1:∀ w,Calls Tryz.prog 35 #[.agg #[.int .i64 a,.int .i64 b],.agg #[.int .i64 3,.int .i64 (-1)]] w fun x w'=>x=.returned (.tuple #[.agg #[.int .i64 A,.int .i64 B],.bool true])∧Below w.heap.size w w')
 (RO:∀ w,Calls Tryz.prog 117 #[.agg #[.int .i64 A,.int .i64 B],.int .i64 7] w fun x w'=>x=.returned (.tuple #[.agg #[.int .i64 P,.int .i64 Q],.bool true])∧Below w.heap.size w w')
 (M2:∀ w,Calls Tryz.prog 35 #[.agg #[.int .i64 P,.int .i64 Q],.agg #[.int .i64 2,.int .i64 1]] w fun x w'=>x=.returned (.tuple #[.agg #[.int .i64 C,.int .i64 D],.bool true])∧Below w.heap.size w w') (w:World) :
 Calls Tryz.prog 119 #[.agg #[.int .i64 a,.int .i64 b]] w fun e w'=>e=.returned (.tuple #[.agg #[.int .i64 P,.int .i64 Q],.int .i64 (d:Int)])∧Below w.heap.size w w':=by
 have UN:Hid (∀ k:Nat,k < 6→∀ w,Calls Tryz.prog 36 #[.int .i64 (k:Int)] w fun e w'=>e=.returned (.agg #[.int .i64 (unitA (k:Int)),.int .i64 (unitB (k:Int))])∧Below w.heap.size w w'):=by
  intro k hk w
  have:=refunit_any (k:Int) w
  rwa [show (k:Int)%6=k by omega] at this
 have UP:Hid (∀ k:Nat,k < 6→((unitA (k:Int)=X∧unitB (k:Int)=Y)↔d=k+1)):=fun k hk=>by rw [← hX,← hY];exact unit_part k d hk hd
 clear hX hY
 replace M1:Hid _:=M1
 replace RO:Hid _:=RO
 replace M2:Hid _:=M2
 go_enter Tryz.func119,Tryz.ntmps119
 go_wp2_with fail
 refine (M1.out _).mono ?_
 rintro e w1 ⟨rfl,d1⟩
 have c1:Below w.heap.size w w1:=Below.trans (by go_grown) (d1.mono (by simp;try omega))
 have z0:w1.cell? ⟨w.heap.size,0,none⟩=some (.int .i64 a):=keepCell d1 (by go_simp)
 have qz0:=World.block_lt_of_cell? _ _ z0
 have z1:w1.cell? ⟨w.heap.size,1,none⟩=some (.int .i64 b):=keepCell d1 (by go_simp)
 have r0:w1.cell? ⟨w.heap.size+1,0,none⟩=some (.int .i64 0):=keepCell d1 (by go_simp)
 have fr0:w1.frozen? ⟨w.heap.size+1,0,none⟩=false:=keepFrozen (v:=.int .i64 0) d1 (by go_simp) (by go_simp)
 have qr0:=World.block_lt_of_cell? _ _ r0
 have r1:w1.cell? ⟨w.heap.size+1,1,none⟩=some (.int .i64 0):=keepCell d1 (by go_simp)
 have fr1:w1.frozen? ⟨w.heap.size+1,1,none⟩=false:=keepFrozen (v:=.int .i64 0) d1 (by go_simp) (by go_simp)
 have hB:=c1
 clear c1 d1
 go_wp2_with fail
 refine (RO.out _).mono ?_
 rintro e w2 ⟨rfl,d2⟩
 have c2:Below w1.heap.size w1 w2:=Below.trans (by go_grown) (d2.mono (by simp;try omega))
 replace z0:=keepCell c2 z0
 replace qz0:=World.block_lt_of_cell? _ _ z0
 replace z1:=keepCell c2 z1
 replace fr0:=keepFrozen c2 r0 fr0
 replace r0:=keepCell c2 r0
 replace qr0:=World.block_lt_of_cell? _ _ r0
 replace fr1:=keepFrozen c2 r1 fr1
 replace r1:=keepCell c2 r1
 replace hB:=belowT hB c2
 clear c2 d2
 go_wp2_with fail
 refine (M2.out _).mono ?_
 rintro e w3 ⟨rfl,d3⟩
 have c3:Below w2.heap.size w2 w3:=Below.trans (by go_grown) (d3.mono (by simp;try omega))
 replace z0:=keepCell c3 z0
 replace qz0:=World.block_lt_of_cell? _ _ z0
 replace z1:=keepCell c3 z1
 replace fr0:=keepFrozen c3 r0 fr0
 replace r0:=keepCell c3 r0
 replace qr0:=World.block_lt_of_cell? _ _ r0
 replace fr1:=keepFrozen c3 r1 fr1
 replace r1:=keepCell c3 r1
 have q0:w3.cell? ⟨w2.heap.size,0,none⟩=some (.int .i64 P):=keepCell d3 (by go_simp)
 have qq0:=World.block_lt_of_cell? _ _ q0
 have q1:w3.cell? ⟨w2.heap.size,1,none⟩=some (.int .i64 Q):=keepCell d3 (by go_simp)
 replace hB:=belowT hB c3
 clear c3 d3
 go_wp2_with fail
 have lq:w2.heap.size < w3.heap.size:=qq0
 have h1:=allocB w3 (.cells #[.int .i64 C,.int .i64 D] 37)
 have h2:=allocB (w3.alloc (.cells #[.int .i64 C,.int .i64 D] 37)) (.cells #[.int .i64 X,.int .i64 Y] 37)
 have hal:=belowT h1 h2
 have x0:((w3.alloc (.cells #[.int .i64 C,.int .i64 D] 37)).alloc (.cells #[.int .i64 X,.int .i64 Y] 37)).cell? ⟨w3.heap.size+1,0,none⟩=some (.int .i64 X):=by go_simp
 have x1:((w3.alloc (.cells #[.int .i64 C,.int .i64 D] 37)).alloc (.cells #[.int .i64 X,.int .i64 Y] 37)).cell? ⟨w3.heap.size+1,1,none⟩=some (.int .i64 Y):=by go_simp
 replace fr0:=keepFrozen hal r0 fr0
 replace fr1:=keepFrozen hal r1 fr1
 replace r0:=keepCell hal r0
 replace r1:=keepCell hal r1
 replace q0:=keepCell hal q0
 replace q1:=keepCell hal q1
 replace hB:=belowT hB hal
 clear h1 h2 hal z0 z1 qz0 qr0 qq0 M1 M2 RO
 generalize ((w3.alloc (.cells #[.int .i64 C,.int .i64 D] 37)).alloc (.cells #[.int .i64 X,.int .i64 Y] 37))=wl at *
 go_loopw [11] (fun v11 wr=>∃ k:Nat,k≤6∧v11=.int .i64 (k:Int)∧(d=0∨k < d)∧Below wl.heap.size wl wr) (fun v11 _=>6 - (intOf v11).toNat)
 case atStart=>exact ⟨0,by omega,rfl,by omega,Below.refl _ _⟩
 case round =>
  obtain ⟨k,hk,rfl,hkd,hX⟩:=hrel
  replace fr0:=keepFrozen hX r0 fr0
  replace fr1:=keepFrozen hX r1 fr1
  replace r0:=keepCell hX r0
  replace r1:=keepCell hX r1
  replace q0:=keepCell hX q0
  replace q1:=keepCell hX q1
  replace x0:=keepCell hX x0
  replace x1:=keepCell hX x1
  by_cases hlt:k < 6
  · have UK:Hid _:=UN.out k hlt
    have HK:=UP.out k hlt
    generalize unitA (k:Int)=U at UK HK
    generalize unitB (k:Int)=V at UK HK
    have hS0:=keepTwo (drewB wr) ⟨x0,x1,Below.refl _ _⟩
    by_cases hq:U=X∧V=Y
    · have hdk:d=k+1:=HK.1 hq
      obtain ⟨rfl,rfl⟩:=hq
      subst hdk
      clear UN UP HK
      go_wp2_with fail
      go_region_held3 (fun w'=>w'.cell? ⟨w3.heap.size+1,0,none⟩=some (.int .i64 U)∧w'.cell? ⟨w3.heap.size+1,1,none⟩=some (.int .i64 V)∧Below wr.heap.size wr w') (first | exact hS0 | exact keepTwo hb (by assumption))
       (first | (go_at_call 36;refine (UK.out _).mono ?_;rintro e w' ⟨rfl,hb⟩))
      rename_i hS
      have hW:=hS.2.2
      replace fr0:=keepFrozen hW r0 fr0
      replace fr1:=keepFrozen hW r1 fr1
      replace r0:=keepCell hW r0
      replace r1:=keepCell hW r1
      replace q0:=keepCell hW q0
      replace q1:=keepCell hW q1
      have hZ:=belowT hB (belowT hX hW)
      obtain ⟨g0,g1⟩:=two_stores (u:=.int .i64 P) (v:=.int .i64 Q) r0 r1
      clear hS hS0 x0 x1
      go_wp2
      exact bodyPost_ret (v:=.tuple #[.agg #[.int .i64 P,.int .i64 Q],.int .i64 ((k+1:Nat):Int)]) (by simp [results,Tryz.results119,go_sem,g0,g1]) rfl ⟨rfl,(hZ.setCell (by simp) _).setCell (by simp) _⟩
    · have hdk:¬ d=k+1:=fun e=>hq (HK.2 e)
      by_cases hU:U=X
      · subst hU
        have hV:(V == Y)=false:=by simp;exact fun e=>hq ⟨rfl,e⟩
        clear UN UP HK hq
        go_wp2_with fail
        go_region_held3 (fun w'=>w'.cell? ⟨w3.heap.size+1,0,none⟩=some (.int .i64 U)∧w'.cell? ⟨w3.heap.size+1,1,none⟩=some (.int .i64 Y)∧Below wr.heap.size wr w') (first | exact hS0 | exact keepTwo hb (by assumption))
         (first | (go_at_call 36;refine (UK.out _).mono ?_;rintro e w' ⟨rfl,hb⟩))
        rename_i hS
        have hW:=hS.2.2
        go_wp2
        go_roundw
        case rel=>exact ⟨k+1,by omega,by go_num,by omega,belowT hX hW⟩
        case measure=>simp [intOf];omega
      · have hU':(U == X)=false:=by simpa using hU
        clear UN UP HK hq hU
        go_wp2_with fail
        go_region_held3 (fun w'=>w'.cell? ⟨w3.heap.size+1,0,none⟩=some (.int .i64 X)∧w'.cell? ⟨w3.heap.size+1,1,none⟩=some (.int .i64 Y)∧Below wr.heap.size wr w') (first | exact hS0 | exact keepTwo hb (by assumption))
         (first | (go_at_call 36;refine (UK.out _).mono ?_;rintro e w' ⟨rfl,hb⟩))
        rename_i hS
        have hW:=hS.2.2
        go_wp2
        go_roundw
        case rel=>exact ⟨k+1,by omega,by go_num,by omega,belowT hX hW⟩
        case measure=>simp [intOf];omega
  · obtain rfl:k=6:=by omega
    obtain rfl:d=0:=by omega
    have hZ:=belowT hB hX
    obtain ⟨g0,g1⟩:=two_stores (u:=.int .i64 P) (v:=.int .i64 Q) r0 r1
    clear x0 x1
    go_wp2
    exact bodyPost_ret (v:=.tuple #[.agg #[.int .i64 P,.int .i64 Q],.int .i64 0]) (by simp [results,Tryz.results119,go_sem,g0,g1]) rfl ⟨rfl,(hZ.setCell (by simp) _).setCell (by simp) _⟩
theorem rparent_any (a b:Int) (ha:In30c a) (hb:In30c b) (w:World) :
 Calls Tryz.prog 119 #[.agg #[.int .i64 a,.int .i64 b]] w fun e w'=>e=.returned (.tuple #[.agg #[.int .i64 (parA a b),.int .i64 (parB a b)],.int .i64 (dig a b)])∧Below w.heap.size w w':=by
 obtain ⟨a1,a2⟩:=ha
 obtain ⟨b1,b2⟩:=hb
 have hs:=par_spec a b
 have hd:=dig_box a b
 have hp:=pt_box (dig a b)
 have hx:=par_box (a:=a) (b:=b) (B:=1073741824) ⟨a1,a2⟩ ⟨b1,b2⟩ (by omega)
 have e1:mulA a b 3 (-1)=3*a+b:=by unfold mulA;omega
 have e2:mulB a b 3 (-1)=2*b - a:=by unfold mulB;omega
 have e3:mulA (parA a b) (parB a b) 2 1=2*parA a b - parB a b:=by unfold mulA;omega
 have e4:mulB (parA a b) (parB a b) 2 1=parA a b+3*parB a b:=by unfold mulB;omega
 have M1:=fun w=>refmul_yes a b 3 (-1) (by omega) (by omega) (by omega) (by omega) (by omega) (by omega) (by omega) (by omega) (by rw [e1];exact fits_mk (by omega)) (by rw [e2];exact fits_mk (by omega)) w
 have M2:=fun w=>refmul_yes (parA a b) (parB a b) 2 1 (by omega) (by omega) (by omega) (by omega) (by omega) (by omega) (by omega) (by omega) (by rw [e3];exact fits_mk (by omega)) (by rw [e4];exact fits_mk (by omega)) w
 rw [e1,e2] at M1
 rw [e3,e4] at M2
 obtain ⟨d,hdd⟩:=Int.eq_ofNat_of_zero_le hd.1
 have:=rparent_core a b (3*a+b) (2*b - a) (parA a b) (parB a b) (2*parA a b - parB a b) (parA a b+3*parB a b) (ptA (dig a b)) (ptB (dig a b)) d (by omega) (by rw [hdd]) (by rw [hdd]) (by omega) (by omega) a1 a2 b1 b2 (by omega) (by omega) (by omega) (by omega) M1
  (refround_at _ _ 7 _ _ (by omega) (by omega) (by omega) (by omega) (by omega) (by omega) (par_nearest a b)) M2 w
 rw [hdd]
 exact this
set_option maxHeartbeats 4000000 in
theorem rok_core (r:Nat) (a b P Q:Int) (v:Bool) (r2:r≤12) (a1: -1073741824≤a) (a2:a≤1073741824) (b1: -1073741824≤b) (b2:b≤1073741824) (hP:(ups r a b).1=P) (hQ:(ups r a b).2=Q)
 (hv:Hid (v=decide ((-512≤P∧P≤511)∧(-512≤Q∧Q≤511)))) (w:World) :
 Calls Tryz.prog 118 #[.agg #[.int .i64 (r:Int),.int .i64 a,.int .i64 b]] w fun e w'=>e=.returned (.bool v)∧Below w.heap.size w w':=by
 have PA:Hid (∀ k:Nat,k≤12→∀ w,Calls Tryz.prog 119 #[.agg #[.int .i64 (ups k a b).1,.int .i64 (ups k a b).2]] w fun e w'=>e=.returned (.tuple #[.agg #[.int .i64 (ups (k+1) a b).1,.int .i64 (ups (k+1) a b).2],.int .i64 (dig (ups k a b).1 (ups k a b).2)])∧Below w.heap.size w w'):=by
  intro k hk w
  have hx:=ups_box (B:=1073741824) (by omega) k (a:=a) (b:=b) ⟨a1,a2⟩ ⟨b1,b2⟩
  rw [ups_last]
  exact rparent_any _ _ hx.1 hx.2 w
 have hPQ:Hid (ups r a b=(P,Q)):=by show ups r a b=(P,Q);rw [← hP,← hQ]
 clear hP hQ
 go_enter Tryz.func118,Tryz.ntmps118
 go_wp2_with fail
 go_loopw [4] (fun v4 wr=>∃ k:Nat,k≤r∧v4=.int .i64 (k:Int)∧wr.cell? ⟨w.heap.size+1,0,none⟩=some (.int .i64 (ups k a b).1)∧wr.cell? ⟨w.heap.size+1,1,none⟩=some (.int .i64 (ups k a b).2)∧wr.frozen? ⟨w.heap.size+1,0,none⟩=false∧wr.frozen? ⟨w.heap.size+1,1,none⟩=false∧wr.cell? ⟨w.heap.size,0,none⟩=some (.int .i64 (r:Int))∧Below w.heap.size w wr) (fun v4 _=>r - (intOf v4).toNat)
 case atStart=>exact ⟨0,by omega,rfl,by go_simp;rfl,by go_simp;rfl,by go_simp,by go_simp,by go_simp,by go_grown⟩
 case round =>
  obtain ⟨k,hk,rfl,z0,z1,fz0,fz1,c0,hB⟩:=hrel
  have lz:w.heap.size+1 < wr.heap.size:=World.block_lt_of_cell? _ _ z0
  by_cases hlt:k < r
  · have PK:Hid _:=PA.out k (by omega)
    clear PA hPQ hv
    generalize (ups k a b).1=X at PK z0
    generalize (ups k a b).2=Y at PK z1
    obtain ⟨U,hU⟩:∃ U,(ups (k+1) a b).1=U:=⟨_,rfl⟩
    obtain ⟨V,hV⟩:∃ V,(ups (k+1) a b).2=V:=⟨_,rfl⟩
    rw [hU,hV] at PK
    replace hU:Hid _:=hU
    replace hV:Hid _:=hV
    have qz0:=World.block_lt_of_cell? _ _ z0
    have qc0:=World.block_lt_of_cell? _ _ c0
    go_wp2_with fail
    refine (PK.out _).mono ?_
    rintro e v1 ⟨rfl,d1⟩
    have c1:Below wr.heap.size wr v1:=Below.trans (by go_grown) (d1.mono (by simp;try omega))
    replace fz0:=keepFrozen c1 z0 fz0
    replace z0:=keepCell c1 z0
    replace qz0:=World.block_lt_of_cell? _ _ z0
    replace fz1:=keepFrozen c1 z1 fz1
    replace z1:=keepCell c1 z1
    replace c0:=keepCell c1 c0
    replace qc0:=World.block_lt_of_cell? _ _ c0
    replace hB:=belowT hB c1
    clear c1 d1
    obtain ⟨g0,g1⟩:=two_stores (u:=.int .i64 U) (v:=.int .i64 V) z0 z1
    go_wp2
    go_roundw
    case rel=>exact ⟨k+1,by omega,by go_num,by rw [hU.out];exact g0,by rw [hV.out];exact g1,by simp [fz0],by simp [fz1],store_keep (store_keep c0 (by simp)) (by simp),(hB.setCell (by simp) _).setCell (by simp) _⟩
    case measure=>simp [intOf];omega
  · obtain rfl:k=r:=by omega
    rw [hPQ.out] at z0 z1
    clear PA hPQ
    simp only at z0 z1
    by_cases h1: -512≤P
    · by_cases h2:P≤511
      · by_cases h3: -512≤Q
        · by_cases h4:Q≤511
          · obtain rfl:v=true:=by rw [hv.out];exact decide_eq_true ⟨⟨h1,h2⟩,h3,h4⟩
            clear hv
            go_wp2
            go_ret
            exact ⟨rfl,hB⟩
          · obtain rfl:v=false:=by rw [hv.out];exact decide_eq_false (by omega)
            clear hv
            have q:=df h4
            go_wp2
            go_ret
            exact ⟨rfl,hB⟩
        · obtain rfl:v=false:=by rw [hv.out];exact decide_eq_false (by omega)
          clear hv
          have q:=df h3
          go_wp2
          go_ret
          exact ⟨rfl,hB⟩
      · obtain rfl:v=false:=by rw [hv.out];exact decide_eq_false (by omega)
        clear hv
        have q:=df h2
        go_wp2
        go_ret
        exact ⟨rfl,hB⟩
    · obtain rfl:v=false:=by rw [hv.out];exact decide_eq_false (by omega)
      clear hv
      have q:=df h1
      go_wp2
      go_ret
      exact ⟨rfl,hB⟩
set_option maxHeartbeats 1000000 in
theorem rok_no0 (r a b:Int) (h:r < 0) (w:World) :
 Calls Tryz.prog 118 #[.agg #[.int .i64 r,.int .i64 a,.int .i64 b]] w fun e w'=>e=.returned (.bool false)∧Below w.heap.size w w':=by
 go_enter Tryz.func118,Tryz.ntmps118
 go_wp2
 go_ret
 exact ⟨rfl,by go_grown⟩
set_option maxHeartbeats 1000000 in
theorem rok_no1 (r a b:Int) (q0:decide (r < 0)=false) (h:12 < r) (w:World) :
 Calls Tryz.prog 118 #[.agg #[.int .i64 r,.int .i64 a,.int .i64 b]] w fun e w'=>e=.returned (.bool false)∧Below w.heap.size w w':=by
 go_enter Tryz.func118,Tryz.ntmps118
 go_wp2
 go_ret
 exact ⟨rfl,by go_grown⟩
set_option maxHeartbeats 1000000 in
theorem rok_no2 (r a b:Int) (q0:decide (r < 0)=false) (q1:decide (12 < r)=false) (h:a < -1073741824) (w:World) :
 Calls Tryz.prog 118 #[.agg #[.int .i64 r,.int .i64 a,.int .i64 b]] w fun e w'=>e=.returned (.bool false)∧Below w.heap.size w w':=by
 go_enter Tryz.func118,Tryz.ntmps118
 go_wp2
 go_ret
 exact ⟨rfl,by go_grown⟩
set_option maxHeartbeats 1000000 in
theorem rok_no3 (r a b:Int) (q0:decide (r < 0)=false) (q1:decide (12 < r)=false) (q2:decide (a < -1073741824)=false) (h:1073741824 < a) (w:World) :
 Calls Tryz.prog 118 #[.agg #[.int .i64 r,.int .i64 a,.int .i64 b]] w fun e w'=>e=.returned (.bool false)∧Below w.heap.size w w':=by
 go_enter Tryz.func118,Tryz.ntmps118
 go_wp2
 go_ret
 exact ⟨rfl,by go_grown⟩
set_option maxHeartbeats 1000000 in
theorem rok_no4 (r a b:Int) (q0:decide (r < 0)=false) (q1:decide (12 < r)=false) (q2:decide (a < -1073741824)=false) (q3:decide (1073741824 < a)=false) (h:b < -1073741824) (w:World) :
 Calls Tryz.prog 118 #[.agg #[.int .i64 r,.int .i64 a,.int .i64 b]] w fun e w'=>e=.returned (.bool false)∧Below w.heap.size w w':=by
 go_enter Tryz.func118,Tryz.ntmps118
 go_wp2
 go_ret
 exact ⟨rfl,by go_grown⟩
set_option maxHeartbeats 1000000 in
theorem rok_no5 (r a b:Int) (q0:decide (r < 0)=false) (q1:decide (12 < r)=false) (q2:decide (a < -1073741824)=false) (q3:decide (1073741824 < a)=false) (q4:decide (b < -1073741824)=false) (h:1073741824 < b) (w:World) :
 Calls Tryz.prog 118 #[.agg #[.int .i64 r,.int .i64 a,.int .i64 b]] w fun e w'=>e=.returned (.bool false)∧Below w.heap.size w w':=by
 go_enter Tryz.func118,Tryz.ntmps118
 go_wp2
 go_ret
 exact ⟨rfl,by go_grown⟩
theorem rok_any (r a b:Int) (w:World) :
 Calls Tryz.prog 118 #[.agg #[.int .i64 r,.int .i64 a,.int .i64 b]] w fun e w'=>e=.returned (.bool (ok4B r a b))∧Below w.heap.size w w':=by
 by_cases q0:r < 0
 · rw [ok4_no fun h=>by unfold Ok4 In30c at h;omega];exact rok_no0 r a b q0 w
 · skip
   by_cases q1:12 < r
   · rw [ok4_no fun h=>by unfold Ok4 In30c at h;omega];exact rok_no1 r a b (df q0) q1 w
   · skip
     by_cases q2:a < -1073741824
     · rw [ok4_no fun h=>by unfold Ok4 In30c at h;omega];exact rok_no2 r a b (df q0) (df q1) q2 w
     · skip
       by_cases q3:1073741824 < a
       · rw [ok4_no fun h=>by unfold Ok4 In30c at h;omega];exact rok_no3 r a b (df q0) (df q1) (df q2) q3 w
       · skip
         by_cases q4:b < -1073741824
         · rw [ok4_no fun h=>by unfold Ok4 In30c at h;omega];exact rok_no4 r a b (df q0) (df q1) (df q2) (df q3) q4 w
         · skip
           by_cases q5:1073741824 < b
           · rw [ok4_no fun h=>by unfold Ok4 In30c at h;omega];exact rok_no5 r a b (df q0) (df q1) (df q2) (df q3) (df q4) q5 w
           · skip
             obtain ⟨n,rfl⟩:=Int.eq_ofNat_of_zero_le (show 0≤r by omega)
             exact rok_core n a b _ _ _ (by omega) (by omega) (by omega) (by omega) (by omega) rfl rfl (by
              show ok4B _ _ _=_
              unfold ok4B
              congr 1
              apply propext
              show _↔((-512≤(ups n a b).1∧(ups n a b).1≤511)∧(-512≤(ups n a b).2∧(ups n a b).2≤511))
              constructor
              · intro h;exact ⟨h.2.2.2.2.1,h.2.2.2.2.2⟩
              · intro h;exact ⟨by omega,by omega,by omega,by omega,h.1,h.2⟩) w
def rowK (G:Nat→Int):Nat→List Value
 | 0=>[]
 | k+1=>rowK G k++[.int .i64 (G (k*3)),.int .i64 (G (k*3+1)),.int .i64 (G (k*3+2))]
theorem three_lie (w:World) (B:Nat) (h:w.heap.size=B) (x y z:Int) (e:TypeId):∀ j u,([.int .i64 x,.int .i64 y,.int .i64 z]:List Value)[j]?=some u→(w.alloc (.cells #[.int .i64 x,.int .i64 y,.int .i64 z] e)).cell? ((⟨B,0,none⟩:Addr).add j)=some u:=by
 subst h
 intro j u hj
 match j,hj with
 | 0,hj=>simp at hj;subst hj;simp [Addr.add]
 | 1,hj=>simp at hj;subst hj;simp [Addr.add]
 | 2,hj=>simp at hj;subst hj;simp [Addr.add]
theorem three_one (x y z:Int):∀ u∈([.int .i64 x,.int .i64 y,.int .i64 z]:List Value),u.oneCell'=true:=by
 intro u hu
 simp at hu
 rcases hu with rfl | rfl | rfl <;>rfl
theorem rowK_at (G:Nat→Int) (o:Nat) (ho:o < 21):(rowK G 7)[o]?=some (.int .i64 (G o)):=by
 have h:o=0∨o=1∨o=2∨o=3∨o=4∨o=5∨o=6∨o=7∨o=8∨o=9∨o=10∨o=11∨o=12∨o=13∨o=14∨o=15∨o=16∨o=17∨o=18∨o=19∨o=20:=by omega
 rcases h with rfl | rfl | rfl | rfl | rfl | rfl | rfl | rfl | rfl | rfl | rfl | rfl | rfl | rfl | rfl | rfl | rfl | rfl | rfl | rfl | rfl <;>rfl
theorem infoCell:(Tryz.prog.info? 39).map (fun i=>(i.zero,i.size,i.bytes))=some (some (.agg #[.int .i64 0,.int .i64 0,.int .i64 0]),3,24):=by kernel_rfl
def TellsC (G:Nat→Int) (e:Ending) (w':World):Prop:=∃ g cap,e=.returned (.tuple #[.slice (some ⟨g,0,none⟩) 7 cap,.int .i64 0])∧∀ o < 21,w'.cell? ⟨g,o,none⟩=some (.int .i64 (G o))
set_option maxHeartbeats 8000000 in
set_option maxRecDepth 20000 in
theorem rkids_core (r a b A B:Int) (G:Nat→Int) (r1:0≤r) (r2:r < 12) (hr:(r == 12)=false) (h:Ok4 r a b)
 (A1: -9007199254740992≤A) (A2:A≤9007199254740992) (B1: -9007199254740992≤B) (B2:B≤9007199254740992)
 (hG0:G 0=r+1) (hG1:G 1=A) (hG2:G 2=B)
 (hG:∀ k:Nat,k < 6→G ((k+1)*3)=r+1∧G ((k+1)*3+1)=A+unitA (k:Int)∧G ((k+1)*3+2)=B+unitB (k:Int))
 (MU:∀ w,Calls Tryz.prog 35 #[.agg #[.int .i64 a,.int .i64 b],.agg #[.int .i64 2,.int .i64 1]] w fun x w'=>x=.returned (.tuple #[.agg #[.int .i64 A,.int .i64 B],.bool true])∧Below w.heap.size w w') (w:World) :
 Calls Tryz.prog 77 #[.agg #[.int .i64 r,.int .i64 a,.int .i64 b]] w fun e w'=>TellsC G e w'∧Below w.heap.size w w':=by
 have OK:Hid (∀ w,Calls Tryz.prog 118 #[.agg #[.int .i64 r,.int .i64 a,.int .i64 b]] w fun e w'=>e=.returned (.bool true)∧Below w.heap.size w w'):=fun w=>by rw [← ok4_mk h];exact rok_any r a b w
 have UN:Hid (∀ k:Nat,k < 6→∀ w,Calls Tryz.prog 36 #[.int .i64 (k:Int)] w fun e w'=>e=.returned (.agg #[.int .i64 (unitA (k:Int)),.int .i64 (unitB (k:Int))])∧Below w.heap.size w w'):=by
  intro k hk w
  have:=refunit_any (k:Int) w
  rwa [show (k:Int)%6=k by omega] at this
 have hrow1:Hid (rowK G 1=[.int .i64 (r+1),.int .i64 A,.int .i64 B]):=by show rowK G 0++[.int .i64 (G 0),.int .i64 (G 1),.int .i64 (G 2)]=_;rw [hG0,hG1,hG2];rfl
 have hrowS:Hid (∀ k:Nat,k < 6→rowK G (k+1+1)=rowK G (k+1)++[.int .i64 (r+1),.int .i64 (A+unitA (k:Int)),.int .i64 (B+unitB (k:Int))]):=by
  intro k hk
  obtain ⟨e0,e1,e2⟩:=hG k hk
  show rowK G (k+1)++[.int .i64 (G ((k+1)*3)),.int .i64 (G ((k+1)*3+1)),.int .i64 (G ((k+1)*3+2))]=_
  rw [e0,e1,e2]
 have UB:Hid (∀ k:Nat,k < 6→(-1≤unitA (k:Int)∧unitA (k:Int)≤1)∧(-1≤unitB (k:Int)∧unitB (k:Int)≤1)):=by
  intro k hk
  have ck:k=0∨k=1∨k=2∨k=3∨k=4∨k=5:=by omega
  rcases ck with rfl | rfl | rfl | rfl | rfl | rfl <;>decide
 replace MU:Hid _:=MU
 clear h hG hG0 hG1 hG2
 go_enter Tryz.func77,Tryz.ntmps77
 go_wp2_with fail
 refine (OK.out _).mono ?_
 rintro e w1 ⟨rfl,d1⟩
 have c1:Below w.heap.size w w1:=Below.trans (by go_grown) (d1.mono (by simp;try omega))
 have z0:w1.cell? ⟨w.heap.size,0,none⟩=some (.int .i64 r):=keepCell d1 (by go_simp)
 have qz0:=World.block_lt_of_cell? _ _ z0
 have z1:w1.cell? ⟨w.heap.size,1,none⟩=some (.int .i64 a):=keepCell d1 (by go_simp)
 have z2:w1.cell? ⟨w.heap.size,2,none⟩=some (.int .i64 b):=keepCell d1 (by go_simp)
 have hB:=c1
 clear c1 d1
 go_wp2_with fail
 refine (MU.out _).mono ?_
 rintro e w2 ⟨rfl,d2⟩
 have c2:Below w1.heap.size w1 w2:=Below.trans (by go_grown) (d2.mono (by simp;try omega))
 replace z0:=keepCell c2 z0
 replace qz0:=World.block_lt_of_cell? _ _ z0
 replace z1:=keepCell c2 z1
 replace z2:=keepCell c2 z2
 replace hB:=belowT hB c2
 clear c2 d2
 go_wp2_with fail
 have h1:=allocB w2 (.cells #[.int .i64 A,.int .i64 B] 37)
 have m0:(w2.alloc (.cells #[.int .i64 A,.int .i64 B] 37)).cell? ⟨w2.heap.size,0,none⟩=some (.int .i64 A):=by go_simp
 have m1:(w2.alloc (.cells #[.int .i64 A,.int .i64 B] 37)).cell? ⟨w2.heap.size,1,none⟩=some (.int .i64 B):=by go_simp
 have lz:w.heap.size < w2.heap.size:=qz0
 replace z0:=keepCell h1 z0
 replace hB:=belowT hB h1
 have hsz:(w2.alloc (.cells #[.int .i64 A,.int .i64 B] 37)).heap.size=w2.heap.size+1:=by simp
 clear h1 z1 z2 MU OK
 have hO0:Hid (((w2.alloc (.cells #[.int .i64 A,.int .i64 B] 37)).alloc (.cells #[.int .i64 (r+1),.int .i64 A,.int .i64 B] 39)).ownsRow (w2.alloc (.cells #[.int .i64 A,.int .i64 B] 37)).heap.size 39 3 (.slice (some ⟨(w2.alloc (.cells #[.int .i64 A,.int .i64 B] 37)).heap.size,0,none⟩) 1 1) 1 (rowK G 1)):=by
  show World.ownsRow _ _ _ _ _ _ _
  rw [hrow1.out]
  exact World.ownsRow_lit _ #[.int .i64 (r+1),.int .i64 A,.int .i64 B] 1 (Nat.le_refl _) (by unfold maxLen;omega) rfl
 rw [hsz] at hO0
 have hX0:Below (w2.alloc (.cells #[.int .i64 A,.int .i64 B] 37)).heap.size (w2.alloc (.cells #[.int .i64 A,.int .i64 B] 37)) ((w2.alloc (.cells #[.int .i64 A,.int .i64 B] 37)).alloc (.cells #[.int .i64 (r+1),.int .i64 A,.int .i64 B] 39)):=allocB _ _
 rw [hsz] at hX0
 obtain ⟨i0,hi,hz0,hz1,hz2⟩:=info_parts infoCell
 go_loopw [6,7] (fun v6 v7 wr=>∃ k:Nat,k≤6∧v7=.int .i64 (k:Int)∧Hid (wr.ownsRow (w2.heap.size+1) 39 3 v6 (k+1) (rowK G (k+1)))∧Below (w2.heap.size+1) (w2.alloc (.cells #[.int .i64 A,.int .i64 B] 37)) wr) (fun _ v7 _=>6 - (intOf v7).toNat)
 case atStart=>exact ⟨0,by omega,rfl,hO0,hX0⟩
 case round =>
  clear hO0 hX0
  obtain ⟨k,hk,rfl,hO,hX⟩:=hrel
  have s0:=keepLow hX z0 (by simp;omega)
  have s1:=keepLow hX m0 (by simp)
  have s2:=keepLow hX m1 (by simp)
  have hwz:w2.heap.size+1≤wr.heap.size:=by have:=hX.size;omega
  by_cases hlt:k < 6
  · have UK:Hid _:=UN.out k hlt
    obtain ⟨⟨u1,u2⟩,⟨u3,u4⟩⟩:=UB.out k hlt
    have hrow:Hid _:=hrowS.out k hlt
    clear UN UB hrowS hrow1 z0 m0 m1
    generalize unitA (k:Int)=U at *
    generalize unitB (k:Int)=V at *
    have hB0:=hB
    clear hB
    have hB:Below wr.heap.size wr wr:=Below.refl _ _
    have qs0:=World.block_lt_of_cell? _ _ s0
    have qs1:=World.block_lt_of_cell? _ _ s1
    go_wp2_with fail
    refine (UK.out _).mono ?_
    rintro e v1 ⟨rfl,d1⟩
    have c1:Below wr.heap.size wr v1:=Below.trans (by go_grown) (d1.mono (by simp;try omega))
    replace s0:=keepCell c1 s0
    replace qs0:=World.block_lt_of_cell? _ _ s0
    replace s1:=keepCell c1 s1
    replace qs1:=World.block_lt_of_cell? _ _ s1
    replace s2:=keepCell c1 s2
    replace hB:=belowT hB c1
    clear c1 d1
    have hO1:Hid (v1.ownsRow (w2.heap.size+1) 39 3 u6 (k+1) (rowK G (k+1))):=own_keep hB hO.out
    have hX1:=hX.trans (hB.mono hwz)
    have hwz1:w2.heap.size+1≤v1.heap.size:=by have:=hB.size;omega
    have e1:(v1.alloc (.cells #[.int .i64 U,.int .i64 V] 37)).heap.size=v1.heap.size+1:=by simp
    clear hO hX hB UK
    go_wp2_with (at_builtin;refine wpList_append_own _ rfl (.tmp 36) (.tmp 52) 116 rfl (w2.heap.size+1) 39 i0 (.agg #[.int .i64 0,.int .i64 0,.int .i64 0]) 3 24 Tryz.underlying116 hi hz0 hz1 hz2 rfl (by decide) _ _ _ rfl (own_keep (belowT (allocB _ _) (allocB _ _)) hO1.out) ⟨v1.heap.size+1,0,none⟩ 1 1 [.int .i64 (r+1),.int .i64 (A+U),.int .i64 (B+V)] rfl rfl (three_lie _ _ e1 _ _ _ _) (three_one _ _ _) (by unfold maxLen;omega) (by omega) (by simp;omega) ?_)
    intro v' w5 hown hgrow _
    have hX5:=((hX1.alloc hwz1 (.cells #[.int .i64 U,.int .i64 V] 37)).alloc (by simp;omega) (.cells #[.int .i64 (r+1),.int .i64 (A+U),.int .i64 (B+V)] 39)).grown hgrow (by simp;omega) (own_block hO1.out)
    have hO5:Hid (w5.ownsRow (w2.heap.size+1) 39 3 v' (k+1+1) (rowK G (k+1+1))):=by rw [hrow.out];exact hown
    clear hown hgrow hO1 hX1 hwz1 e1
    go_wp2
    go_roundw
    case rel=>exact ⟨k+1,by omega,by go_num,hO5,hX5⟩
    case measure=>simp [intOf];omega
  · obtain rfl:k=6:=by omega
    obtain ⟨g,cap,rfl⟩:=own_shape hO.out (by omega)
    have hZ:Below w.heap.size w wr:=hB.trans (hX.mono (by omega))
    clear UN UB hrowS hrow1 z0 m0 m1 s0 s1 s2
    go_wp2
    go_ret2
    refine ⟨⟨g,cap,rfl,fun o ho=>?_⟩,hZ⟩
    rw [hO.out.cellAt o (by omega)]
    exact rowK_at G o ho
theorem rkids_yes (r a b:Int) (h:Ok4 r a b) (hr:r < 12) (w:World) :
 Calls Tryz.prog 77 #[.agg #[.int .i64 r,.int .i64 a,.int .i64 b]] w fun e w'=>TellsC (kidG r a b) e w'∧Below w.heap.size w w':=by
 have hp:=ok4_part h
 have e1:mulA a b 2 1=2*a - b:=by unfold mulA;omega
 have e2:mulB a b 2 1=a+3*b:=by unfold mulB;omega
 have MU:=fun w=>refmul_yes a b 2 1 (by omega) (by omega) (by omega) (by omega) (by omega) (by omega) (by omega) (by omega) (by rw [e1];exact fits_mk (by omega)) (by rw [e2];exact fits_mk (by omega)) w
 rw [e1,e2] at MU
 refine rkids_core r a b (2*a - b) (a+3*b) (kidG r a b) h.1 hr (by simp;omega) h (by omega) (by omega) (by omega) (by omega) (kidG_0 r a b 0) ?_ ?_ (fun k hk=>⟨kidG_0 r a b (k+1),?_,?_⟩) MU w
 · rw [show (1:Nat)=0*3+1 from rfl,kidG_1];show 2*a - b+0=_;omega
 · rw [show (2:Nat)=0*3+2 from rfl,kidG_2];show a+3*b+0=_;omega
 · rw [kidG_1]
   have:=(unit_part k (k+1) hk (by omega)).2 rfl
   rw [this.1];rfl
 · rw [kidG_2]
   have:=(unit_part k (k+1) hk (by omega)).2 rfl
   rw [this.2];rfl
def In64 (n:Int):Prop:= -9223372036854775808≤n∧n≤9223372036854775807
theorem natAbs_two (a:Int) (e:Nat) (h:¬ In64 (a^e)):2≤a.natAbs:=by
 by_cases h2:2≤a.natAbs
 · exact h2
 · exfalso
   apply h
   have hle:(a^e).natAbs≤1:=by
    rw [Int.natAbs_pow]
    have:a.natAbs^e≤1^e:=Nat.pow_le_pow_left (by omega) e
    simpa using this
   unfold In64
   omega
theorem over_mono {a:Int} {e K:Nat} (hle:e≤K) (h:¬ In64 (a^e)):¬ In64 (a^K):=by
 have h2:=natAbs_two a e h
 by_cases hk:e=K
 · subst hk;exact h
 · have h1:9223372036854775808≤(a^e).natAbs:=by unfold In64 at h;omega
   have h3:(a^K).natAbs=(a^e).natAbs*a.natAbs^(K - e):=by
    rw [Int.natAbs_pow,Int.natAbs_pow,← Nat.pow_add];congr 1;omega
   have h4:2≤a.natAbs^(K - e):=by
    have:a.natAbs^1≤a.natAbs^(K - e):=Nat.pow_le_pow_right (by omega) (by omega)
    rw [Nat.pow_one] at this
    omega
   have h5:9223372036854775808*2≤(a^e).natAbs*a.natAbs^(K - e):=Nat.mul_le_mul h1 h4
   unfold In64
   omega
theorem pow_nil {a:Int} {q K:Nat} (hq:q≤K) (h:a^q=0):a^K=0:=by
 rw [show K=q+(K - q) by omega,Int.pow_add,h,Int.zero_mul]
theorem minus_even (I:Nat):(-1:Int)^(2*I)=1:=by
 induction I with
 | zero=>rfl
 | succ I ih=>rw [show 2*(I+1)=2*I+1+1 by omega,Int.pow_succ,Int.pow_succ,ih];decide
theorem minus_pow (K:Nat):(K%2=1→(-1:Int)^K= -1)∧(K%2=0→(-1:Int)^K=1):=by
 constructor
 · intro h
   have e:K=2*(K / 2)+1:=by omega
   rw [e,Int.pow_succ,minus_even];decide
 · intro h
   have e:K=2*(K / 2):=by omega
   rw [e,minus_even]
set_option maxHeartbeats 1000000 in
theorem refpow_rest (a:Int) (K:Nat) (a1: -9223372036854775808≤a) (a2:a≤9223372036854775807) (hK:K≤9223372036854775807) (n1:(a == 1)=false) (n2:(a == -1)=false) (w:World) :
 Calls Tryz.prog 124 #[.int .i64 a,.int .i64 (K:Int)] w fun e w'=>e=.returned (.tuple #[.int .i64 (kept (a^K)),.bool (fits (a^K))])∧Below w.heap.size w w':=by
 go_enter Tryz.func124,Tryz.ntmps124
 go_wp2
 go_loopw [6,7] (fun v i wr=>∃ (q:Nat) (m:Int),q≤K∧i=.int .i64 (q:Int)∧v=.int .i64 m∧-9223372036854775808≤m∧m≤9223372036854775807∧Hid (m=a^q)∧Below w.heap.size w wr) (fun _ i _=>K - (intOf i).toNat)
 case atStart=>exact ⟨0,1,Nat.zero_le _,rfl,rfl,by omega,by omega,(by show (1:Int)=a^0;simp),Below.refl _ _⟩
 case round =>
  obtain ⟨q,m,hq,rfl,rfl,m1,m2,HM,hb⟩:=hrel
  by_cases hlt:q < K
  · by_cases hm:m=0
    · have HA:Hid (kept (a^K)=0∧fits (a^K)=true):=by
       have e:=HM.out
       rw [hm] at e
       rw [pow_nil (q:=q) (K:=K) hq e.symm]
       exact ⟨kept_mk (fits_mk ⟨by omega,by omega⟩),fits_mk ⟨by omega,by omega⟩⟩
      clear HM
      subst hm
      go_wp2
      go_ret2
      exact ⟨by rw [HA.out.1,HA.out.2];rfl,hb⟩
    · have hm0:(m == 0)=false:=by simpa using hm
      have PB:Hid (-170141183460469231731687303715884105728≤m*a∧m*a < 170141183460469231731687303715884105728):=prod_bd m a m1 m2 a1 a2
      by_cases hd:In64 (m*a)
      · have E2:Hid (kept (m*a)=m*a):=kept_mk (fits_mk hd)
        have E3:Hid (fits (m*a)=true):=fits_mk hd
        by_cases ho:m=1
        · clear E2 E3 hd PB hm hm0
          subst ho
          have E2:Hid (kept a=a):=kept_mk (fits_mk ⟨a1,a2⟩)
          have E3:Hid (fits a=true):=fits_mk ⟨a1,a2⟩
          go_wp2_with fail
          refine (times_any 1 a m1 m2 a1 a2 _).mono ?_
          rw [Int.one_mul]
          rintro e w1 ⟨rfl,c1⟩
          go_wp2_with fail
          refine (small_any a (by omega) (by omega) _).mono ?_
          rw [E2.out,E3.out]
          rintro e w2 ⟨rfl,c2⟩
          replace c2:=belowT c1 c2
          clear c1
          have hb':=belowT hb c2
          clear hb c2
          go_wp2
          go_roundw
          case rel =>
           exact ⟨q+1,a,by omega,by go_num,rfl,a1,a2,(by show a=a^(q+1);rw [Int.pow_succ,← HM.out,Int.one_mul]),hb'⟩
          case measure=>simp [intOf];omega
        · have ho':(m == 1)=false:=by simpa using ho
          clear ho
          go_wp2_with fail
          refine (times_any m a m1 m2 a1 a2 _).mono ?_
          rintro e w1 ⟨rfl,c1⟩
          go_wp2_with fail
          refine (small_any (m*a) (by have h0:=PB.out;omega) (by have h0:=PB.out;omega) _).mono ?_
          rw [E2.out,E3.out]
          rintro e w2 ⟨rfl,c2⟩
          replace c2:=belowT c1 c2
          clear c1
          have hb':=belowT hb c2
          clear hb c2
          go_wp2
          go_roundw
          case rel =>
           exact ⟨q+1,m*a,by omega,by go_num,rfl,hd.1,hd.2,(by show m*a=a^(q+1);rw [Int.pow_succ,← HM.out]),hb'⟩
          case measure=>simp [intOf];omega
      · have HA:Hid (kept (a^K)=0∧fits (a^K)=false):=by
         have hn:¬ In64 (a^K):=over_mono (e:=q+1) (by omega) (by rw [Int.pow_succ,← HM.out];exact hd)
         exact ⟨kept_no (fits_no hn),fits_no hn⟩
        have E2:Hid (kept (m*a)=0):=kept_no (fits_no hd)
        have E3:Hid (fits (m*a)=false):=fits_no hd
        have ho:(m == 1)=false:=by
         have:m≠1:=by
          intro e
          apply hd
          rw [e,Int.one_mul]
          exact ⟨a1,a2⟩
         simpa using this
        clear HM
        go_wp2_with fail
        refine (times_any m a m1 m2 a1 a2 _).mono ?_
        rintro e w1 ⟨rfl,c1⟩
        go_wp2_with fail
        refine (small_any (m*a) (by have h0:=PB.out;omega) (by have h0:=PB.out;omega) _).mono ?_
        rw [E2.out,E3.out]
        rintro e w2 ⟨rfl,c2⟩
        replace c2:=belowT c1 c2
        clear c1
        have hb':=belowT hb c2
        clear hb c2
        go_wp2
        go_ret2
        exact ⟨by rw [HA.out.1,HA.out.2];rfl,hb'⟩
  · obtain rfl:q=K:=by omega
    have HA:Hid (kept (a^q)=m∧fits (a^q)=true):=by
     have e:=HM.out
     rw [← e]
     exact ⟨kept_mk (fits_mk ⟨m1,m2⟩),fits_mk ⟨m1,m2⟩⟩
    clear HM
    go_wp2
    go_ret2
    exact ⟨by rw [HA.out.1,HA.out.2];rfl,hb⟩
set_option maxHeartbeats 1000000 in
theorem refpow_one (K:Nat) (_hK:K≤9223372036854775807) (w:World) :
 Calls Tryz.prog 124 #[.int .i64 1,.int .i64 (K:Int)] w fun e w'=>e=.returned (.tuple #[.int .i64 1,.bool true])∧Below w.heap.size w w':=by
 by_cases hlt:0 < K
 all_goals
  go_enter Tryz.func124,Tryz.ntmps124
  go_wp2
  refine wp_loop_rounds 1 ?_
  rw [rounds_succ]
  go_wp2
  go_ret2
  exact ⟨rfl,Below.refl _ _⟩
set_option maxHeartbeats 1000000 in
theorem refpow_odd (K:Nat) (_hK:K≤9223372036854775807) (h0:0 < K) (h2:((K:Int)%2 == 1)=true) (w:World) :
 Calls Tryz.prog 124 #[.int .i64 (-1),.int .i64 (K:Int)] w fun e w'=>e=.returned (.tuple #[.int .i64 (-1),.bool true])∧Below w.heap.size w w':=by
 go_enter Tryz.func124,Tryz.ntmps124
 go_wp2
 refine wp_loop_rounds 1 ?_
 rw [rounds_succ]
 go_wp2
 go_ret2
 exact ⟨rfl,Below.refl _ _⟩
set_option maxHeartbeats 1000000 in
theorem refpow_even (K:Nat) (_hK:K≤9223372036854775807) (h0:0 < K) (h2:((K:Int)%2 == 1)=false) (w:World) :
 Calls Tryz.prog 124 #[.int .i64 (-1),.int .i64 (K:Int)] w fun e w'=>e=.returned (.tuple #[.int .i64 (1),.bool true])∧Below w.heap.size w w':=by
 go_enter Tryz.func124,Tryz.ntmps124
 go_wp2
 refine wp_loop_rounds 1 ?_
 rw [rounds_succ]
 go_wp2
 go_ret2
 exact ⟨rfl,Below.refl _ _⟩
set_option maxHeartbeats 1000000 in
theorem refpow_first (a:Int) (w:World) :
 Calls Tryz.prog 124 #[.int .i64 a,.int .i64 0] w fun e w'=>e=.returned (.tuple #[.int .i64 1,.bool true])∧Below w.heap.size w w':=by
 go_enter Tryz.func124,Tryz.ntmps124
 go_wp2
 refine wp_loop_rounds 1 ?_
 rw [rounds_succ]
 go_wp2
 go_ret2
 exact ⟨rfl,Below.refl _ _⟩
theorem refpow_any (a:Int) (K:Nat) (a1: -9223372036854775808≤a) (a2:a≤9223372036854775807) (hK:K≤9223372036854775807) (w:World) :
 Calls Tryz.prog 124 #[.int .i64 a,.int .i64 (K:Int)] w fun e w'=>e=.returned (.tuple #[.int .i64 (kept (a^K)),.bool (fits (a^K))])∧Below w.heap.size w w':=by
 by_cases h0:K=0
 · subst h0
   have e:kept (a^0)=1∧fits (a^0)=true:=by rw [Int.pow_zero];exact ⟨kept_mk (fits_mk ⟨by omega,by omega⟩),fits_mk ⟨by omega,by omega⟩⟩
   rw [e.1,e.2]
   exact refpow_first a w
 · by_cases h1:a=1
   · subst h1
     have e:kept ((1:Int)^K)=1∧fits ((1:Int)^K)=true:=by rw [Int.one_pow];exact ⟨kept_mk (fits_mk ⟨by omega,by omega⟩),fits_mk ⟨by omega,by omega⟩⟩
     rw [e.1,e.2]
     exact refpow_one K hK w
   · by_cases h2:a= -1
     · subst h2
       have hm:=minus_pow K
       by_cases hp:(K:Int)%2=1
       · have e:kept ((-1:Int)^K)= -1∧fits ((-1:Int)^K)=true:=by rw [hm.1 (by omega)];exact ⟨kept_mk (fits_mk ⟨by omega,by omega⟩),fits_mk ⟨by omega,by omega⟩⟩
         rw [e.1,e.2]
         exact refpow_odd K hK (by omega) (by simpa using hp) w
       · have e:kept ((-1:Int)^K)=1∧fits ((-1:Int)^K)=true:=by rw [hm.2 (by omega)];exact ⟨kept_mk (fits_mk ⟨by omega,by omega⟩),fits_mk ⟨by omega,by omega⟩⟩
         rw [e.1,e.2]
         exact refpow_even K hK (by omega) (by simpa using hp) w
     · exact refpow_rest a K a1 a2 hK (by simpa using h1) (by simpa using h2) w
set_option maxHeartbeats 400000 in
theorem rseven_any (K:Nat) (hK:K≤12) (w:World) :
 Calls Tryz.prog 78 #[.int .i64 (K:Int)] w fun e w'=>e=.returned (.int .i64 (sev K))∧Below w.heap.size w w':=by
 have h:Hid (∀ w,Calls Tryz.prog 124 #[.int .i64 7,.int .i64 (K:Int)] w fun e w'=>e=.returned (.tuple #[.int .i64 (sev K),.bool true])∧Below w.heap.size w w'):=by
  have h:=refpow_any 7 K (by omega) (by omega) (by omega)
  have hs:=sev_box hK
  have hf:fits ((7:Int)^K)=true:=by rw [← sev_pow hK];exact fits_mk ⟨by omega,by omega⟩
  rw [kept_mk hf,hf,← sev_pow hK] at h
  exact h
 generalize sev K=S at h
 go_enter Tryz.func78,Tryz.ntmps78
 go_wp2_with fail
 refine (h.out _).mono ?_
 rintro e w1 ⟨rfl,d1⟩
 have c1:Below w.heap.size w w1:=Below.trans (by go_grown) (d1.mono (by simp;try omega))
 have hB:=c1
 clear c1 d1
 go_wp2
 go_ret
 exact ⟨rfl,hB⟩
def lowW (n:Nat) (a b:Int) (j:Nat):Int:=wd (-16) (-512) (-512) (fromD n a b (n - j))
theorem lowW_box (n:Nat) (a b:Int) (j:Nat):0≤lowW n a b j∧lowW n a b j < 68719476736:=by
 have h:=lowD_box (d:=fromD n a b (n - j)) (fun i _ _=>fromD_box n a b (n - j) i)
 unfold lowW wd headD
 omega
theorem lowW_start (n:Nat) (a b:Int):lowW n a b n=68719476735:=by
 have e:∀ j,1≤j→j≤12→fromD n a b (n - n) j=(fun _=>(7:Int)) j:=by
  intro j _ _
  unfold fromD
  split
  · exact (dgs_seven n a b j).2 (by omega)
  · rfl
 unfold lowW
 rw [wd_congr e]
 decide
theorem lowW_step {n:Nat} {a b:Int} (hn:n≤12) {j:Nat} (j1:1≤j) (j2:j≤n):setD (lowW n a b j) j (dig (ups (n - j) a b).1 (ups (n - j) a b).2)=lowW n a b (j - 1):=by
 unfold lowW
 rw [setD_wd (fun i _ _=>fromD_box n a b (n - j) i) _ j1 (by omega)]
 apply wd_congr
 intro i i1 i2
 by_cases hi:i=j
 · subst hi
   rw [putD_at]
   unfold fromD dgs
   rw [if_pos (by omega),if_pos (by omega)]
 · rw [putD_other _ _ hi]
   unfold fromD
   by_cases h1:n < i+(n - j)
   · rw [if_pos h1,if_pos (by omega)]
   · rw [if_neg h1,if_neg (by omega)]
theorem lowW_end (n:Nat) (a b:Int):headD n (ups n a b).1 (ups n a b).2+lowW n a b 0=wordOf n a b:=by
 have e:∀ j,1≤j→j≤12→fromD n a b (n - 0) j=dgs n a b j:=by
  intro j _ _
  unfold fromD
  rw [if_pos (by omega)]
 unfold lowW wordOf
 rw [wd_congr e]
 unfold wd
 have:headD (-16) (-512) (-512)=0:=by decide
 omega
theorem head_math {L R A B:Int} (hL:0≤L∧L < 68719476736) (hR:0≤R∧R≤12) (hA:InBase A) (hB:InBase B) :
 bits .or .u64 (bits .or .u64 (bits .or .u64 (bits .or .u64 L 1152921504606846976) (IntKind.u64.wrap (R*72057594037927936))) (IntKind.u64.wrap ((A+512)*70368744177664))) (IntKind.u64.wrap ((B+512)*68719476736))=headD R A B+L:=by
 unfold InBase at hA hB
 obtain ⟨r0,r1⟩:=hR
 obtain ⟨a0,a1⟩:=hA
 obtain ⟨b0,b1⟩:=hB
 obtain ⟨l0,l1⟩:=hL
 rw [u64_wrap (n:=R*72057594037927936) ⟨by omega,by omega⟩,u64_wrap (n:=(A+512)*70368744177664) ⟨by omega,by omega⟩,u64_wrap (n:=(B+512)*68719476736) ⟨by omega,by omega⟩]
 have uL:U64 L:=⟨by omega,by omega⟩
 have uM:U64 1152921504606846976:=⟨by omega,by omega⟩
 have uR:U64 (R*72057594037927936):=⟨by omega,by omega⟩
 have uA:U64 ((A+512)*70368744177664):=⟨by omega,by omega⟩
 have uB:U64 ((B+512)*68719476736):=⟨by omega,by omega⟩
 rw [u64_ora uL uM uR]
 have e1:bits .or .u64 1152921504606846976 (R*72057594037927936)=1152921504606846976+R*72057594037927936:=u64_join (i:=60) (p:=1152921504606846976) uM rfl (by omega) (by omega) (by omega) (by omega)
 have u1:U64 (1152921504606846976+R*72057594037927936):=⟨by omega,by omega⟩
 rw [e1,u64_ora uL u1 uA]
 have e2:bits .or .u64 (1152921504606846976+R*72057594037927936) ((A+512)*70368744177664)=1152921504606846976+R*72057594037927936+(A+512)*70368744177664:=u64_join (i:=56) (p:=72057594037927936) u1 rfl (by omega) (by omega) (by omega) (by omega)
 have u2:U64 (1152921504606846976+R*72057594037927936+(A+512)*70368744177664):=⟨by omega,by omega⟩
 rw [e2,u64_ora uL u2 uB]
 have e3:bits .or .u64 (1152921504606846976+R*72057594037927936+(A+512)*70368744177664) ((B+512)*68719476736)=headD R A B:=by
  unfold headD
  exact u64_join (i:=46) (p:=70368744177664) u2 rfl (by omega) (by omega) (by omega) (by omega)
 have u3:U64 (headD R A B):=by unfold headD;exact ⟨by omega,by omega⟩
 rw [e3,u64_orc uL u3]
 exact u64_join (i:=36) (p:=68719476736) u3 rfl (by unfold headD;omega) (by omega) (by omega) (by omega)
set_option maxHeartbeats 8000000 in
set_option maxRecDepth 20000 in
theorem rword_yes (n:Nat) (a b:Int) (h:Ok4 (n:Int) a b) (w:World) :
 Calls Tryz.prog 73 #[.agg #[.int .i64 (n:Int),.int .i64 a,.int .i64 b]] w fun e w'=>e=.returned (.tuple #[.int .u64 (wordOf n a b),.int .i64 0])∧Below w.heap.size w w':=by
 have hn:n≤12:=by have:=h.2.1;omega
 have OK:Hid (∀ w,Calls Tryz.prog 118 #[.agg #[.int .i64 (n:Int),.int .i64 a,.int .i64 b]] w fun e w'=>e=.returned (.bool true)∧Below w.heap.size w w'):=fun w=>by rw [← ok4_mk h];exact rok_any (n:Int) a b w
 have PA:Hid (∀ k:Nat,k≤n→∀ w,Calls Tryz.prog 119 #[.agg #[.int .i64 (ups k a b).1,.int .i64 (ups k a b).2]] w fun e w'=>e=.returned (.tuple #[.agg #[.int .i64 (ups (k+1) a b).1,.int .i64 (ups (k+1) a b).2],.int .i64 (dig (ups k a b).1 (ups k a b).2)])∧Below w.heap.size w w'):=by
  intro k hk w
  have hx:=ups_box (B:=1073741824) (by omega) k (a:=a) (b:=b) h.2.2.1 h.2.2.2.1
  rw [ups_last]
  exact rparent_any _ _ hx.1 hx.2 w
 have hst:=lowW_start n a b
 have hen:Hid (bits .or .u64 (bits .or .u64 (bits .or .u64 (bits .or .u64 (lowW n a b 0) 1152921504606846976) (IntKind.u64.wrap ((n:Int)*72057594037927936))) (IntKind.u64.wrap (((ups n a b).1+512)*70368744177664))) (IntKind.u64.wrap (((ups n a b).2+512)*68719476736))=wordOf n a b):=by
  have hA:=h.2.2.2.2.1
  have hB:=h.2.2.2.2.2
  rw [show ((n:Int)).toNat=n by omega] at hA hB
  show _=_
  rw [head_math (lowW_box n a b 0) (by omega) hA hB,lowW_end]
 have hbb:Hid (InBase (ups n a b).1∧InBase (ups n a b).2):=by
  have hA:=h.2.2.2.2.1
  have hB:=h.2.2.2.2.2
  rw [show ((n:Int)).toNat=n by omega] at hA hB
  exact ⟨hA,hB⟩
 generalize hW:wordOf n a b=WW at *
 clear hW h
 go_enter Tryz.func73,Tryz.ntmps73
 go_wp2_with fail
 refine (OK.out _).mono ?_
 rintro e w1 ⟨rfl,d1⟩
 have c1:Below w.heap.size w w1:=Below.trans (by go_grown) (d1.mono (by simp;try omega))
 have z0:w1.cell? ⟨w.heap.size,0,none⟩=some (.int .i64 (n:Int)):=keepCell d1 (by go_simp)
 have qz0:=World.block_lt_of_cell? _ _ z0
 have z1:w1.cell? ⟨w.heap.size,1,none⟩=some (.int .i64 a):=keepCell d1 (by go_simp)
 have z2:w1.cell? ⟨w.heap.size,2,none⟩=some (.int .i64 b):=keepCell d1 (by go_simp)
 have hB:=c1
 clear c1 d1
 go_wp2_with fail
 have hal:=allocB w1 (.cells #[.int .i64 a,.int .i64 b] 37)
 have y0:(w1.alloc (.cells #[.int .i64 a,.int .i64 b] 37)).cell? ⟨w1.heap.size,0,none⟩=some (.int .i64 a):=by go_simp
 have y1:(w1.alloc (.cells #[.int .i64 a,.int .i64 b] 37)).cell? ⟨w1.heap.size,1,none⟩=some (.int .i64 b):=by go_simp
 have fy0:(w1.alloc (.cells #[.int .i64 a,.int .i64 b] 37)).frozen? ⟨w1.heap.size,0,none⟩=false:=by go_simp
 have fy1:(w1.alloc (.cells #[.int .i64 a,.int .i64 b] 37)).frozen? ⟨w1.heap.size,1,none⟩=false:=by go_simp
 have x0:=keepCell hal z0
 have hB0:=belowT hB hal
 generalize w1.alloc (.cells #[.int .i64 a,.int .i64 b] 37)=wl at *
 go_loopw [5,6] (fun v5 v6 wr=>∃ j:Nat,j≤n∧v5=.int .u64 (lowW n a b j)∧v6=.int .i64 (j:Int)∧wr.cell? ⟨w1.heap.size,0,none⟩=some (.int .i64 (ups (n - j) a b).1)∧wr.cell? ⟨w1.heap.size,1,none⟩=some (.int .i64 (ups (n - j) a b).2)∧wr.frozen? ⟨w1.heap.size,0,none⟩=false∧wr.frozen? ⟨w1.heap.size,1,none⟩=false∧wr.cell? ⟨w.heap.size,0,none⟩=some (.int .i64 (n:Int))∧Below w.heap.size w wr) (fun _ v6 _=>(intOf v6).toNat)
 case atStart=>exact ⟨n,by omega,by rw [hst],rfl,by rw [Nat.sub_self];exact y0,by rw [Nat.sub_self];exact y1,fy0,fy1,x0,hB0⟩
 case round =>
  clear hal y0 y1 fy0 fy1 x0 hB0 hB z0 z1 z2
  obtain ⟨j,hj,rfl,rfl,y0,y1,fy0,fy1,x0,hB⟩:=hrel
  by_cases hlt:0 < j
  · have hbx:=lowW_box n a b j
    have hdd:=dig_box (ups (n - j) a b).1 (ups (n - j) a b).2
    have hstep:=lowW_step (a:=a) (b:=b) hn hlt hj
    have hmath:=with_math (v:=lowW n a b j) (r:=j) ⟨by omega,by omega⟩ hdd.1 (by omega) hlt (by omega)
    rw [hstep] at hmath
    have PJ:=PA.out (n - j) (by omega)
    rw [show n - j+1=n - (j - 1) by omega] at PJ
    replace PJ:Hid _:=PJ
    obtain ⟨U,hU⟩:∃ U,(ups (n - (j - 1)) a b).1=U:=⟨_,rfl⟩
    obtain ⟨V,hV⟩:∃ V,(ups (n - (j - 1)) a b).2=V:=⟨_,rfl⟩
    rw [hU,hV] at PJ
    generalize dig (ups (n - j) a b).1 (ups (n - j) a b).2=d at *
    generalize (ups (n - j) a b).1=X at *
    generalize (ups (n - j) a b).2=Y at *
    obtain ⟨D,eD⟩:∃ D,36 - 3*(j:Int)=D:=⟨_,rfl⟩
    have D0:¬ D < 0:=by omega
    have eDn:D.toNat=3*(12 - j):=by omega
    obtain ⟨p,hp⟩:∃ p:Int,8^(12 - j)=p:=⟨_,rfl⟩
    have ep:(2:Int)^D.toNat=p:=by rw [eDn,Int.pow_mul];exact hp
    have ep':(2:Int)^min D.toNat 64=p:=by rw [show min D.toNat 64=D.toNat by omega];exact ep
    rw [hp] at hmath
    obtain ⟨s,hs⟩:∃ s,IntKind.u64.wrap (7*p)=s:=⟨_,rfl⟩
    obtain ⟨t,ht⟩:∃ t,IntKind.u64.wrap (d*p)=t:=⟨_,rfl⟩
    rw [hs,ht] at hmath
    obtain ⟨q,hq⟩:∃ q,bits .andNot .u64 (lowW n a b j) s=q:=⟨_,rfl⟩
    rw [hq] at hmath
    obtain ⟨d0,d6⟩:=hdd
    have jb:(1:Int)≤(j:Int)∧(j:Int)≤12:=by omega
    replace hU:Hid _:=hU
    replace hV:Hid _:=hV
    clear hstep PA hst hen hbb eDn hp
    obtain ⟨L',eL⟩:∃ L',lowW n a b (j - 1)=L':=⟨_,rfl⟩
    rw [eL] at hmath
    replace eL:Hid _:=eL
    generalize hLj:lowW n a b j=Lj at *
    clear hLj
    have qy0:=World.block_lt_of_cell? _ _ y0
    have qx0:=World.block_lt_of_cell? _ _ x0
    go_wp2_with fail
    refine (PJ.out _).mono ?_
    rintro e v1 ⟨rfl,d1⟩
    have c1:Below wr.heap.size wr v1:=Below.trans (by go_grown) (d1.mono (by simp;try omega))
    replace fy0:=keepFrozen c1 y0 fy0
    replace y0:=keepCell c1 y0
    replace qy0:=World.block_lt_of_cell? _ _ y0
    replace fy1:=keepFrozen c1 y1 fy1
    replace y1:=keepCell c1 y1
    replace x0:=keepCell c1 x0
    replace qx0:=World.block_lt_of_cell? _ _ x0
    replace hB:=belowT hB c1
    clear c1 d1
    go_wp2_with fail
    go_quiet (fail)
    have hdw:Below v1.heap.size v1 ((v1.alloc (.cells #[.int .i64 U,.int .i64 V] 37)).drewN nq):=belowN (allocB _ _) _
    have g0:((v1.alloc (.cells #[.int .i64 U,.int .i64 V] 37)).drewN nq).cell? ⟨v1.heap.size,0,none⟩=some (.int .i64 U):=by go_simp
    have g1:((v1.alloc (.cells #[.int .i64 U,.int .i64 V] 37)).drewN nq).cell? ⟨v1.heap.size,1,none⟩=some (.int .i64 V):=by go_simp
    replace fy0:=keepFrozen hdw y0 fy0
    replace fy1:=keepFrozen hdw y1 fy1
    replace y0:=keepCell hdw y0
    replace y1:=keepCell hdw y1
    replace x0:=keepCell hdw x0
    replace hB:=belowT hB hdw
    clear hdw
    generalize (v1.alloc (.cells #[.int .i64 U,.int .i64 V] 37)).drewN nq=wq at *
    obtain ⟨h0,h1⟩:=two_stores (u:=.int .i64 U) (v:=.int .i64 V) y0 y1
    go_wp2
    go_roundw
    case rel=>exact ⟨j - 1,by omega,by rw [eL.out],by go_num,by rw [hU.out];exact h0,by rw [hV.out];exact h1,by simp [fy0],by simp [fy1],store_keep (store_keep x0 (by first | (simp;done) | (simp;omega))) (by first | (simp;done) | (simp;omega)),(hB.setCell (by simp;omega) _).setCell (by simp;omega) _⟩
    case measure=>simp [intOf];omega
  · obtain rfl:j=0:=by omega
    rw [Nat.sub_zero] at y0 y1
    have hh:=hen.out
    obtain ⟨⟨a1,a2⟩,b1,b2⟩:=hbb.out
    clear PA hst hen hbb
    generalize (ups n a b).1=A at *
    generalize (ups n a b).2=B at *
    obtain ⟨t1,e1⟩:∃ t1,IntKind.u64.wrap ((n:Int)*72057594037927936)=t1:=⟨_,rfl⟩
    obtain ⟨t2,e2⟩:∃ t2,IntKind.u64.wrap ((A+512)*70368744177664)=t2:=⟨_,rfl⟩
    obtain ⟨t3,e3⟩:∃ t3,IntKind.u64.wrap ((B+512)*68719476736)=t3:=⟨_,rfl⟩
    rw [e1,e2,e3] at hh
    have nb:(n:Int)≤12:=by omega
    go_wp2
    go_ret2
    exact ⟨rfl,hB⟩
theorem rwcell_no (v:Int) (hv:U64 v) (h:¬ Whole v) (w:World) :
 Calls Tryz.prog 14 #[.int .u64 v] w fun e w'=>e=.returned (.tuple #[.agg #[.int .i64 0,.int .i64 0,.int .i64 0],.int .i64 5])∧Below w.heap.size w w' :=
 (rwcell_any v hv w).mono fun _ _ ⟨he,hb⟩=>⟨he.elim (fun x=>absurd x.1 h) (fun x=>x.2),hb⟩
set_option maxHeartbeats 1000000 in
theorem risword_yes (v:Int) (h:Whole v) (w:World) :
 Calls Tryz.prog 48 #[.int .u64 v] w fun e w'=>e=.returned (.bool true)∧Below w.heap.size w w':=by
 have CE:Hid _:=rwcell_yes v h
 clear h
 go_enter Tryz.func48,Tryz.ntmps48
 go_wp2_with fail
 refine (CE.out _).mono ?_
 rintro e w1 ⟨rfl,d1⟩
 have c1:Below w.heap.size w w1:=Below.trans (by go_grown) (d1.mono (by simp;try omega))
 have hB:=c1
 clear c1 d1
 go_wp2
 go_ret
 exact ⟨rfl,belowT hB (allocB _ _)⟩
set_option maxHeartbeats 1000000 in
theorem risword_no (v:Int) (hv:U64 v) (h:¬ Whole v) (w:World) :
 Calls Tryz.prog 48 #[.int .u64 v] w fun e w'=>e=.returned (.bool false)∧Below w.heap.size w w':=by
 have CE:Hid _:=rwcell_no v hv h
 clear h hv
 go_enter Tryz.func48,Tryz.ntmps48
 go_wp2_with fail
 refine (CE.out _).mono ?_
 rintro e w1 ⟨rfl,d1⟩
 have c1:Below w.heap.size w w1:=Below.trans (by go_grown) (d1.mono (by simp;try omega))
 have hB:=c1
 clear c1 d1
 go_wp2
 go_ret
 exact ⟨rfl,belowT hB (allocB _ _)⟩
end Go.Proofs.YtbnlhdnnenahfaaGreatDoor
namespace Go.Proofs.YtbnlhdnnenahfaaGreatDoor
open Go.RowKit Go
attribute [local go_sem] Oper.semAt_some
set_option maxHeartbeats 1000000 in
theorem ires_yes (v:Int) (h:Whole v) (w:World) :
 Calls Tryz.prog 111 #[.int .u64 v] w fun e w'=>e=.returned (.int .i64 (wR v))∧Below w.heap.size w w':=by
 have hx:=whole_box h
 have hv:U64 v:=⟨by omega,by omega⟩
 have IK:Hid (∀ w,Calls Tryz.prog 80 #[.int .u64 v] w fun e w'=>e=.returned (.bool true)∧Below w.heap.size w w'):=iok v hv true (by simp [h])
 have SZ:Hid (∀ w,Calls Tryz.prog 160 #[.int .u64 v] w fun e w'=>e=.returned (.int .i64 (wR v))∧Below w.heap.size w w'):=wsize v hv
 generalize wR v=R at *
 clear h hv hx
 go_enter Tryz.func111,Tryz.ntmps111
 go_wp2_with fail
 refine (IK.out _).mono ?_
 rintro e w1 ⟨rfl,d1⟩
 have c1:Below w.heap.size w w1:=Below.trans (by go_grown) (d1.mono (by simp;try omega))
 have hB:=c1
 clear c1 d1
 go_wp2_with fail
 refine (SZ.out _).mono ?_
 rintro e w2 ⟨rfl,d2⟩
 have c2:Below w1.heap.size w1 w2:=Below.trans (by go_grown) (d2.mono (by simp;try omega))
 replace hB:=belowT hB c2
 clear c2 d2
 go_wp2
 go_ret
 exact ⟨rfl,hB⟩
set_option maxHeartbeats 1000000 in
theorem iparent_yes (v:Int) (h:Whole v) (hr:0 < wR v) (w:World) :
 Calls Tryz.prog 163 #[.int .u64 v] w fun e w'=>e=.returned (.tuple #[.int .u64 (upW v),.int .i64 0])∧Below w.heap.size w w':=by
 have hx:=whole_box h
 have hv:U64 v:=⟨by omega,by omega⟩
 have IK:Hid (∀ w,Calls Tryz.prog 80 #[.int .u64 v] w fun e w'=>e=.returned (.bool true)∧Below w.heap.size w w'):=iok v hv true (by simp [h])
 have SZ:Hid (∀ w,Calls Tryz.prog 160 #[.int .u64 v] w fun e w'=>e=.returned (.int .i64 (wR v))∧Below w.heap.size w w'):=wsize v hv
 have RA:Hid (∀ w,Calls Tryz.prog 201 #[.int .u64 v] w fun e w'=>e=.returned (.int .u64 (upW v))∧Below w.heap.size w w'):=wraised v h hr
 have q:(wR v == 0)=false:=by simp;omega
 generalize wR v=R at *
 generalize upW v=U at *
 clear h hv hx
 go_enter Tryz.func163,Tryz.ntmps163
 go_wp2_with fail
 refine (IK.out _).mono ?_
 rintro e w1 ⟨rfl,d1⟩
 have c1:Below w.heap.size w w1:=Below.trans (by go_grown) (d1.mono (by simp;try omega))
 have hB:=c1
 clear c1 d1
 go_wp2_with fail
 refine (SZ.out _).mono ?_
 rintro e w2 ⟨rfl,d2⟩
 have c2:Below w1.heap.size w1 w2:=Below.trans (by go_grown) (d2.mono (by simp;try omega))
 replace hB:=belowT hB c2
 clear c2 d2
 go_wp2_with fail
 refine (RA.out _).mono ?_
 rintro e w3 ⟨rfl,d3⟩
 have c3:Below w2.heap.size w2 w3:=Below.trans (by go_grown) (d3.mono (by simp;try omega))
 replace hB:=belowT hB c3
 clear c3 d3
 go_wp2
 go_ret2
 exact ⟨rfl,hB⟩
set_option maxHeartbeats 1000000 in
theorem iparent_top (v:Int) (h:Whole v) (hr:wR v=0) (w:World) :
 Calls Tryz.prog 163 #[.int .u64 v] w fun e w'=>e=.returned (.tuple #[.int .u64 0,.int .i64 3])∧Below w.heap.size w w':=by
 have hx:=whole_box h
 have hv:U64 v:=⟨by omega,by omega⟩
 have IK:Hid (∀ w,Calls Tryz.prog 80 #[.int .u64 v] w fun e w'=>e=.returned (.bool true)∧Below w.heap.size w w'):=iok v hv true (by simp [h])
 have SZ:Hid (∀ w,Calls Tryz.prog 160 #[.int .u64 v] w fun e w'=>e=.returned (.int .i64 0)∧Below w.heap.size w w'):=fun w=>by rw [← hr];exact wsize v hv w
 clear h hv hx hr
 go_enter Tryz.func163,Tryz.ntmps163
 go_wp2_with fail
 refine (IK.out _).mono ?_
 rintro e w1 ⟨rfl,d1⟩
 have c1:Below w.heap.size w w1:=Below.trans (by go_grown) (d1.mono (by simp;try omega))
 have hB:=c1
 clear c1 d1
 go_wp2_with fail
 refine (SZ.out _).mono ?_
 rintro e w2 ⟨rfl,d2⟩
 have c2:Below w1.heap.size w1 w2:=Below.trans (by go_grown) (d2.mono (by simp;try omega))
 replace hB:=belowT hB c2
 clear c2 d2
 go_wp2
 go_ret2
 exact ⟨rfl,hB⟩
end Go.Proofs.YtbnlhdnnenahfaaGreatDoor
namespace Go.Proofs.YtbnlhdnnenahfaaGreatDoor
open Go.RowKit
theorem infoE:(Tryz.prog.info? 37).map (fun i=>(i.zero,i.size,i.bytes))=some (some (.agg #[.int .i64 0,.int .i64 0]),2,16):=by kernel_rfl
def pvals (P:List (Int × Int)):List Value:=P.flatMap fun p=>[.int .i64 p.1,.int .i64 p.2]
theorem pvals_step (P:List (Int × Int)) (p q:Int):pvals (P++[(p,q)])=pvals P++[.int .i64 p,.int .i64 q]:=by unfold pvals;rw [List.flatMap_append];rfl
theorem pvals_at:∀ (P:List (Int × Int)) (j:Nat) (h:j < P.length),(pvals P)[j*2]?=some (.int .i64 P[j].1)∧(pvals P)[j*2+1]?=some (.int .i64 P[j].2)
 | p :: P,0,_=>⟨rfl,rfl⟩
 | p :: P,j+1,h=>by
  have:=pvals_at P j (by simpa using h)
  have e:pvals (p :: P)=.int .i64 p.1 :: .int .i64 p.2 :: pvals P:=rfl
  rw [e,show (j+1)*2=j*2+1+1 by omega,show j*2+1+1+1=(j*2+1)+1+1 by omega]
  simpa using this
theorem pair_lies (w:World) (B:Nat) (h:w.heap.size=B) (x y:Value) (e:TypeId):∀ j u,([x,y]:List Value)[j]?=some u→(w.alloc (.cells #[x,y] e)).cell? ((⟨B,0,none⟩:Addr).add j)=some u:=by
 subst h
 intro j u hj
 match j,hj with
 | 0,hj=>simp at hj;subst hj;simp [Addr.add]
 | 1,hj=>simp at hj;subst hj;simp [Addr.add]
theorem pair_int (x y:Int):∀ u∈([.int .i64 x,.int .i64 y]:List Value),u.oneCell'=true:=by
 intro u hu
 simp at hu
 rcases hu with rfl | rfl <;>rfl
def PRow (w:World) (v:Value) (P:List (Int × Int)):Prop:=∃ p cap,v=.slice p P.length cap∧∀ (j:Nat) (hj:j < P.length),∃ g,p=some ⟨g,0,none⟩∧w.cell? ⟨g,j*2,none⟩=some (.int .i64 P[j].1)∧w.cell? ⟨g,j*2+1,none⟩=some (.int .i64 P[j].2)
theorem own_prow {w:World} {base:Nat} {v:Value} {P:List (Int × Int)} (h:w.ownsRow base 37 2 v P.length (pvals P)):PRow w v P:=by
 rcases h.2 with ⟨hv,h0⟩ | ⟨g,cap,cur,hv,_⟩
 · exact ⟨none,0,by rw [h0];exact hv,fun j hj=>by omega⟩
 · subst hv
   refine ⟨_,cap,rfl,fun j hj=>⟨g,rfl,?_,?_⟩⟩
   · rw [h.cellAt (j*2) (by omega),(pvals_at P j hj).1]
   · rw [h.cellAt (j*2+1) (by omega),(pvals_at P j hj).2]
theorem PRow.keep {w w':World} {v:Value} {P:List (Int × Int)} (h:PRow w v P) (hb:Below w.heap.size w w'):PRow w' v P:=by
 obtain ⟨p,cap,h1,h2⟩:=h
 exact ⟨p,cap,h1,fun j hj=>by obtain ⟨g,e,x,y⟩:=h2 j hj;exact ⟨g,e,keepCell hb x,keepCell hb y⟩⟩
set_option maxHeartbeats 1000000 in
theorem rword_none (r a b:Int) (h:¬ Ok4 r a b) (w:World) :
 Calls Tryz.prog 73 #[.agg #[.int .i64 r,.int .i64 a,.int .i64 b]] w fun e w'=>e=.returned (.tuple #[.int .u64 0,.int .i64 2])∧Below w.heap.size w w':=by
 have OK:Hid (∀ w,Calls Tryz.prog 118 #[.agg #[.int .i64 r,.int .i64 a,.int .i64 b]] w fun e w'=>e=.returned (.bool false)∧Below w.heap.size w w'):=fun w=>by rw [← ok4_no h];exact rok_any r a b w
 clear h
 go_enter Tryz.func73,Tryz.ntmps73
 go_wp2_with fail
 refine (OK.out _).mono ?_
 rintro e w1 ⟨rfl,d1⟩
 have c1:Below w.heap.size w w1:=Below.trans (by go_grown) (d1.mono (by simp;try omega))
 have hB:=c1
 clear c1 d1
 go_wp2
 go_ret2
 exact ⟨rfl,hB⟩
theorem keepFive {w0 a b:World} {p0 p1 p2 p3 p4:Addr} {v0 v1 v2 v3 v4:Value} (hb:Below a.heap.size a b) (h:a.cell? p0=some v0∧a.cell? p1=some v1∧a.cell? p2=some v2∧a.cell? p3=some v3∧a.cell? p4=some v4∧Below w0.heap.size w0 a) :
 b.cell? p0=some v0∧b.cell? p1=some v1∧b.cell? p2=some v2∧b.cell? p3=some v3∧b.cell? p4=some v4∧Below w0.heap.size w0 b :=
 ⟨keepCell hb h.1,keepCell hb h.2.1,keepCell hb h.2.2.1,keepCell hb h.2.2.2.1,keepCell hb h.2.2.2.2.1,belowT h.2.2.2.2.2 hb⟩
set_option maxHeartbeats 8000000 in
set_option maxRecDepth 20000 in
theorem rbeside (r:Nat) (a b:Int) (ha: -500000000≤a∧a≤500000000) (hb: -500000000≤b∧b≤500000000) (P:List (Int × Int)) (hP:P.length≤1000) (hPs:∀ p∈P,stp p.1 p.2≤1000) (v:Value) (w:World) (h:PRow w v P) :
 Calls Tryz.prog 47 #[.agg #[.int .i64 r,.int .i64 a,.int .i64 b],v] w fun e w'=>(∃ (s:Value) (L:List Int),e=.returned s∧Rising L∧(∀ x,x∈L↔x∈wordsAt r a b P)∧L.length≤1000∧RowAt w.heap.size w' s L)∧Below w.heap.size w w':=by
 obtain ⟨p,cap,rfl,hp⟩:=h
 obtain ⟨n,en⟩:∃ n,P.length=n:=⟨_,rfl⟩
 have EN:=hidd en
 have HP:=hidd hp
 have HS:=hidd hPs
 rw [en] at hP ⊢
 obtain ⟨i0,hi,hz0,hz1,hz2⟩:=info_parts infoU64
 have z0:(w.alloc (.cells #[.int .i64 r,.int .i64 a,.int .i64 b] 39)).cell? ⟨w.heap.size,0,none⟩=some (.int .i64 r):=by go_simp
 have z1:(w.alloc (.cells #[.int .i64 r,.int .i64 a,.int .i64 b] 39)).cell? ⟨w.heap.size,1,none⟩=some (.int .i64 a):=by go_simp
 have z2:(w.alloc (.cells #[.int .i64 r,.int .i64 a,.int .i64 b] 39)).cell? ⟨w.heap.size,2,none⟩=some (.int .i64 b):=by go_simp
 have hwb:Below w.heap.size w (w.alloc (.cells #[.int .i64 r,.int .i64 a,.int .i64 b] 39)):=allocB _ _
 have hWs:(w.alloc (.cells #[.int .i64 r,.int .i64 a,.int .i64 b] 39)).heap.size=w.heap.size+1:=by simp
 clear en hp hPs
 go_enter Tryz.func47,Tryz.ntmps47
 go_wp2_with fail
 generalize (w.alloc (.cells #[.int .i64 r,.int .i64 a,.int .i64 b] 39))=W at z0 z1 z2 hwb hWs ⊢
 go_loopw [5,6] (fun v5 v6 wr=>∃ (k:Nat),k≤n∧v6=.int .i64 (k:Int)∧Hid (wr.ownsRow (w.heap.size+1) 35 1 v5 (wordsAt r a b (P.take k)).length (vals (wordsAt r a b (P.take k))))∧Below (w.heap.size+1) W wr) (fun _ v6 _=>n - (intOf v6).toNat)
 case atStart=>exact ⟨0,by omega,rfl,hidd own_nil,Below.refl _ _⟩
 case round =>
  obtain ⟨k,hk,rfl,hO,hB⟩:=hrel
  have y0:=keepLow hB z0 (Nat.lt_succ_self _)
  have y1:=keepLow hB z1 (Nat.lt_succ_self _)
  have y2:=keepLow hB z2 (Nat.lt_succ_self _)
  by_cases hlt:k < n
  · have hkP:k < P.length:=by rw [EN.out];exact hlt
    obtain ⟨g,rfl,x1,x2⟩:=HP.out k hkP
    replace x1:=keepLow hB (keepCell hwb x1) (by have:=World.block_lt_of_cell? _ _ x1;exact Nat.lt_succ_of_lt this)
    replace x2:=keepLow hB (keepCell hwb x2) (by have:=World.block_lt_of_cell? _ _ x2;exact Nat.lt_succ_of_lt this)
    have hst:=HS.out _ (List.getElem_mem hkP)
    have hTK:Hid (wordsAt r a b (P.take (k+1))=wordsAt r a b (P.take k)++wordAt r (a+P[k].1) (b+P[k].2)):=hidd (by rw [List.take_succ_eq_append_getElem hkP,wordsAt_append,wordsAt_one])
    generalize P[k].1=X at *
    generalize P[k].2=Y at *
    have hge:=stp_ge X Y
    have hXY:(-1000≤X∧X≤1000)∧(-1000≤Y∧Y≤1000):=by omega
    clear hst hge
    have hwl:(wordsAt r a b (P.take k)).length≤1000:=by have h1:=wordsAt_len r a b (P.take k);rw [List.length_take] at h1;omega
    have hWB:w.heap.size+1≤wr.heap.size:=by have:=hB.size;omega
    by_cases hok:Ok4 (r:Int) (a+X) (b+Y)
    · have RW:=hidd (rword_yes r (a+X) (b+Y) hok)
      rw [wordAt_yes hok] at hTK
      have hvl:Hid (vals (wordsAt r a b (P.take (k+1)))=vals (wordsAt r a b (P.take k))++[.int .u64 (wordOf r (a+X) (b+Y))]∧(wordsAt r a b (P.take (k+1))).length=(wordsAt r a b (P.take k)).length+1):=hidd (by rw [hTK.out];exact ⟨by simp [vals],by simp⟩)
      generalize wordOf r (a+X) (b+Y)=z at *
      have RX:=RW
      rw [← show IntKind.i64.wrap (a+X)=a+X by rw [IntKind.wrap_i64];omega,← show IntKind.i64.wrap (b+Y)=b+Y by rw [IntKind.wrap_i64];omega] at RX
      generalize hLL:wordsAt r a b (P.take k)=LL at *
      clear hok hLL hTK
      go_wp2_with fail
      have hS0:wr.drew.cell? ⟨w.heap.size,0,none⟩=some (.int .i64 r)∧wr.drew.cell? ⟨w.heap.size,1,none⟩=some (.int .i64 a)∧wr.drew.cell? ⟨w.heap.size,2,none⟩=some (.int .i64 b)∧wr.drew.cell? ⟨g,k*2,none⟩=some (.int .i64 X)∧wr.drew.cell? ⟨g,k*2+1,none⟩=some (.int .i64 Y)∧Below wr.heap.size wr wr.drew:=⟨y0,y1,y2,x1,x2,(Below.refl _ _).drew⟩
      go_region_held3 (fun w'=>w'.cell? ⟨w.heap.size,0,none⟩=some (.int .i64 r)∧w'.cell? ⟨w.heap.size,1,none⟩=some (.int .i64 a)∧w'.cell? ⟨w.heap.size,2,none⟩=some (.int .i64 b)∧w'.cell? ⟨g,k*2,none⟩=some (.int .i64 X)∧w'.cell? ⟨g,k*2+1,none⟩=some (.int .i64 Y)∧Below wr.heap.size wr w') (first | exact hS0 | exact keepFive hb (by assumption)) (first | (go_at_call 73;with_reducible refine (RX.out _).mono ?_;rintro e w' ⟨rfl,hb⟩) | (go_at_call 73;with_reducible refine (RW.out _).mono ?_;rintro e w' ⟨rfl,hb⟩))
      all_goals
       rename_i hS
       have hW:=hS.2.2.2.2.2
       have hO1:=hidd (own_keep hW hO.out)
       have hBw:Below (w.heap.size+1) W w':=hB.trans (hW.mono (by omega))
       have hws:w.heap.size+1≤w'.heap.size:=by have:=hW.size;omega
       clear hS hS0 hO hB y0 y1 y2 x1 x2 hb RW RX hW
       go_wp2_with (at_builtin;refine wpList_append_own _ rfl (.tmp 43) (.tmp 45) 22 rfl (w.heap.size+1) 35 i0 (.int .u64 0) 1 8 Tryz.underlying22 hi hz0 hz1 hz2 rfl (by decide) _ _ _ rfl (own_keep (allocB _ _) hO1.out) ⟨w'.heap.size,0,none⟩ 1 1 [.int .u64 z] rfl rfl (one_lies _ _ rfl _ _) (one_int _ _) (by unfold maxLen;omega) (by omega) (by simp;omega) ?_)
       intro v' w5 hown hgrow _
       have hB5:=(hBw.alloc hws (.cells #[.int .u64 z] 35)).grown hgrow (by simp;omega) (own_block hO1.out)
       have hO5:Hid (w5.ownsRow (w.heap.size+1) 35 1 v' (wordsAt r a b (P.take (k+1))).length (vals (wordsAt r a b (P.take (k+1))))):=hidd (by rw [hvl.out.1,hvl.out.2];exact hown)
       clear hown hgrow hO1 hBw hws hvl
       go_wp2
       go_roundw
       case rel=>exact ⟨k+1,by omega,by go_num,hO5,hB5⟩
       case measure=>simp [intOf];omega
    · have RW:=hidd (rword_none (r:Int) (a+X) (b+Y) hok)
      rw [wordAt_no hok,List.append_nil] at hTK
      rw [← hTK.out] at hO
      have RX:=RW
      rw [← show IntKind.i64.wrap (a+X)=a+X by rw [IntKind.wrap_i64];omega,← show IntKind.i64.wrap (b+Y)=b+Y by rw [IntKind.wrap_i64];omega] at RX
      clear hTK hok
      go_wp2_with fail
      have hS0:wr.drew.cell? ⟨w.heap.size,0,none⟩=some (.int .i64 r)∧wr.drew.cell? ⟨w.heap.size,1,none⟩=some (.int .i64 a)∧wr.drew.cell? ⟨w.heap.size,2,none⟩=some (.int .i64 b)∧wr.drew.cell? ⟨g,k*2,none⟩=some (.int .i64 X)∧wr.drew.cell? ⟨g,k*2+1,none⟩=some (.int .i64 Y)∧Below wr.heap.size wr wr.drew:=⟨y0,y1,y2,x1,x2,(Below.refl _ _).drew⟩
      go_region_held3 (fun w'=>w'.cell? ⟨w.heap.size,0,none⟩=some (.int .i64 r)∧w'.cell? ⟨w.heap.size,1,none⟩=some (.int .i64 a)∧w'.cell? ⟨w.heap.size,2,none⟩=some (.int .i64 b)∧w'.cell? ⟨g,k*2,none⟩=some (.int .i64 X)∧w'.cell? ⟨g,k*2+1,none⟩=some (.int .i64 Y)∧Below wr.heap.size wr w') (first | exact hS0 | exact keepFive hb (by assumption)) (first | (go_at_call 73;with_reducible refine (RX.out _).mono ?_;rintro e w' ⟨rfl,hb⟩) | (go_at_call 73;with_reducible refine (RW.out _).mono ?_;rintro e w' ⟨rfl,hb⟩))
      all_goals
       rename_i hS
       have hW:=hS.2.2.2.2.2
       have hO1:=hidd (own_keep hW hO.out)
       have hBw:Below (w.heap.size+1) W w':=hB.trans (hW.mono (by omega))
       clear hS hS0 hO hB y0 y1 y2 x1 x2 hb RW RX hW
       go_wp2
       go_roundw
       case rel=>exact ⟨k+1,by omega,by go_num,hO1,hBw⟩
       case measure=>simp [intOf];omega
  · obtain rfl:k=n:=by omega
    have eP:P.take k=P:=List.take_of_length_le (by rw [EN.out];omega)
    rw [eP] at hO
    have hwl:=wordsAt_len r a b P
    rw [EN.out] at hwl
    have hU:∀ x∈wordsAt r a b P,U64 x:=fun x hx=>by
     obtain ⟨p',q',-,hO',rfl⟩:=mem_wordsAt.1 hx
     have:=(word_parts hO').2.2.2.2.2
     exact ⟨this.1,by omega⟩
    have hlen:Hid ((wordsAt r a b P).length≤k):=hidd hwl
    have SE:=hidd (rset_own (wordsAt r a b P) (by omega) hU (w.heap.size+1) u5 wr hO.out)
    have hBw:Below w.heap.size w wr:=hwb.trans (hB.mono (by omega))
    clear hO HP HS EN eP hwl hU y0 y1 y2 z0 z1 z2
    go_wp2_with fail
    refine SE.out.mono ?_
    rintro e w1 ⟨⟨s,L,rfl,hR,hM,hLn,hOw⟩,hb1⟩
    have HR:=hidd (And.intro hR (And.intro hM (And.intro (show L.length≤1000 by have:=hlen.out;omega) (RowAt.mono (own_row hOw) hBw.size))))
    have hB1:=belowT hBw hb1
    clear hR hM hLn hOw SE
    go_wp2
    go_ret
    exact ⟨⟨s,L,rfl,HR.out⟩,hB1⟩
def RefSay (v:Int) (Q:Int × Int→Prop) (e:Ending) (w:World):Prop:=∃ (s:Value) (L:List Int),e=.returned (.tuple #[s,.int .i64 0])∧RowAt 0 w s L∧Rising L∧(∀ x,x∈L↔∃ p q,Q (p,q)∧Ok4 (wR v) (cellA v+p) (cellB v+q)∧x=wordOf (wR v).toNat (cellA v+p) (cellB v+q))∧L.length≤1000
theorem words_iff {r:Nat} {a b:Int} {P:List (Int × Int)} {Q:Int × Int→Prop} (h:∀ x,x∈P↔Q x) (x:Int):x∈wordsAt r a b P↔∃ p q,Q (p,q)∧Ok4 (r:Int) (a+p) (b+q)∧x=wordOf r (a+p) (b+q):=by
 rw [mem_wordsAt]
 constructor
 · rintro ⟨p,q,h1,h2⟩;exact ⟨p,q,(h _).1 h1,h2⟩
 · rintro ⟨p,q,h1,h2⟩;exact ⟨p,q,(h _).2 h1,h2⟩
theorem unit_iff (x:Int × Int):x∈(List.range 6).map (fun i=>(uA i,uB i))↔stp x.1 x.2=1:=by
 rw [stp_iff (by omega)]
 constructor
 · intro h
   obtain ⟨i,hi,rfl⟩:=List.mem_map.1 h
   rcases six_cases (List.mem_range.1 hi) with rfl | rfl | rfl | rfl | rfl | rfl <;>decide
 · intro h
   rw [List.mem_map]
   have:(x.1=1∧x.2=0)∨(x.1=0∧x.2=1)∨(x.1= -1∧x.2=1)∨(x.1= -1∧x.2=0)∨(x.1=0∧x.2= -1)∨(x.1=1∧x.2= -1):=by omega
   rcases this with h | h | h | h | h | h
   · exact ⟨0,by decide,Prod.ext h.1.symm h.2.symm⟩
   · exact ⟨1,by decide,Prod.ext h.1.symm h.2.symm⟩
   · exact ⟨2,by decide,Prod.ext h.1.symm h.2.symm⟩
   · exact ⟨3,by decide,Prod.ext h.1.symm h.2.symm⟩
   · exact ⟨4,by decide,Prod.ext h.1.symm h.2.symm⟩
   · exact ⟨5,by decide,Prod.ext h.1.symm h.2.symm⟩
set_option maxHeartbeats 8000000 in
set_option maxRecDepth 20000 in
theorem rneigh_yes (v:Int) (hv:Whole v) (w:World) :
 Calls Tryz.prog 24 #[.int .u64 v] w fun e w'=>RefSay v (fun x=>stp x.1 x.2=1) e w'∧Below w.heap.size w w':=by
 have CE:=hidd (rwcell_yes v hv)
 have p1:=ok4_part (cell_ok hv)
 have hr:=wR_box v
 obtain ⟨r,er⟩:∃ r:Nat,wR v=r:=⟨(wR v).toNat,by omega⟩
 have FIN:Hid (∀ (s:Value) (L:List Int) (C:Nat) (w':World),(Rising L∧(∀ x,x∈L↔x∈wordsAt r (cellA v) (cellB v) ((List.range 6).map fun i=>(uA i,uB i)))∧L.length≤1000∧RowAt C w' s L)→RefSay v (fun x=>stp x.1 x.2=1) (.returned (.tuple #[s,.int .i64 0])) w'):=by
  refine hidd fun s L C w' ⟨h1,h2,h3,h4⟩=>⟨s,L,rfl,h4.mono (Nat.zero_le _),h1,fun x=>?_,h3⟩
  rw [h2 x,er,show ((r:Int)).toNat=r by omega]
  exact words_iff (Q:=fun x=>stp x.1 x.2=1) (fun x=>unit_iff x) x
 rw [er] at CE
 have BE:Hid (∀ (v':Value) (w:World),PRow w v' ((List.range 6).map fun i=>(uA i,uB i))→_):=hidd (fun v' w h=>rbeside r (cellA v) (cellB v) (by omega) (by omega) ((List.range 6).map fun i=>(uA i,uB i)) (by simp) (fun x hx=>by have:=(unit_iff x).1 hx;omega) v' w h)
 have UN:Hid (∀ k:Nat,k < 6→∀ w,Calls Tryz.prog 36 #[.int .i64 (k:Int)] w fun e w'=>e=.returned (.agg #[.int .i64 (uA k),.int .i64 (uB k)])∧Below w.heap.size w w'):=by
  refine hidd fun k hk w=>?_
  have:=refunit_any (k:Int) w
  rw [show (k:Int)%6=k by omega] at this
  have hu:unitA (k:Int)=uA k∧unitB (k:Int)=uB k:=by rcases six_cases hk with rfl | rfl | rfl | rfl | rfl | rfl <;>decide
  rwa [hu.1,hu.2] at this
 obtain ⟨i0,hi',hz0,hz1,hz2⟩:=info_parts infoE
 generalize cellA v=a at *
 generalize cellB v=b at *
 clear hv p1 hr er
 go_enter Tryz.func24,Tryz.ntmps24
 go_wp2_with fail
 refine (CE.out _).mono ?_
 rintro e w1 ⟨rfl,d1⟩
 have c1:Below w.heap.size w w1:=Below.trans (by go_grown) (d1.mono (by simp;try omega))
 have hB:=c1
 clear c1 d1
 have z0:(w1.alloc (.cells #[.int .i64 r,.int .i64 a,.int .i64 b] 39)).cell? ⟨w1.heap.size,0,none⟩=some (.int .i64 r):=by go_simp
 have z1:(w1.alloc (.cells #[.int .i64 r,.int .i64 a,.int .i64 b] 39)).cell? ⟨w1.heap.size,1,none⟩=some (.int .i64 a):=by go_simp
 have z2:(w1.alloc (.cells #[.int .i64 r,.int .i64 a,.int .i64 b] 39)).cell? ⟨w1.heap.size,2,none⟩=some (.int .i64 b):=by go_simp
 have hwb:=belowT hB (allocB w1 (.cells #[.int .i64 r,.int .i64 a,.int .i64 b] 39))
 have hWs:(w1.alloc (.cells #[.int .i64 r,.int .i64 a,.int .i64 b] 39)).heap.size=w1.heap.size+1:=by simp
 go_wp2_with fail
 generalize (w1.alloc (.cells #[.int .i64 r,.int .i64 a,.int .i64 b] 39))=W at z0 z1 z2 hwb hWs ⊢
 have hWl:w.heap.size≤w1.heap.size:=hB.size
 generalize w1.heap.size=M at z0 z1 z2 hWs hWl ⊢
 clear hB CE
 go_loopw [6,7] (fun v6 v7 wr=>∃ k:Nat,k≤6∧v7=.int .i64 (k:Int)∧Hid (wr.ownsRow (M+1) 37 2 v6 k (pvals ((List.range k).map fun i=>(uA i,uB i))))∧Below (M+1) W wr) (fun _ v7 _=>6 - (intOf v7).toNat)
 case atStart=>exact ⟨0,by omega,rfl,World.ownsRow_nil _ _ _ _,Below.refl _ _⟩
 case round =>
  obtain ⟨k,hk,rfl,hO,hB⟩:=hrel
  have y0:=keepLow hB z0 (Nat.lt_succ_self _)
  have y1:=keepLow hB z1 (Nat.lt_succ_self _)
  have y2:=keepLow hB z2 (Nat.lt_succ_self _)
  by_cases hlt:k < 6
  · have UK:=hidd (UN.out k hlt)
    have hv:Hid (pvals ((List.range (k+1)).map fun i=>(uA i,uB i))=pvals ((List.range k).map fun i=>(uA i,uB i))++[.int .i64 (uA k),.int .i64 (uB k)]):=hidd (by rw [List.range_succ,List.map_append];exact pvals_step _ _ _)
    generalize uA k=X at *
    generalize uB k=Y at *
    clear y0 y1 y2
    go_wp2_with fail
    refine (UK.out wr).mono ?_
    rintro e w3 ⟨rfl,hb1⟩
    have hO1:=hidd (own_keep hb1 hO.out)
    have hB1:=hB.trans (hb1.mono (by have:=hB.size;omega))
    have hws:M+1≤w3.heap.size:=by have:=hB1.size;omega
    clear hO hB hb1 UK
    go_wp2_with (at_builtin;refine wpList_append_own _ rfl (.tmp 20) (.tmp 23) 67 rfl (M+1) 37 i0 (.agg #[.int .i64 0,.int .i64 0]) 2 16 Tryz.underlying67 hi' hz0 hz1 hz2 rfl (by decide) _ _ _ rfl (own_keep (allocB _ _) hO1.out) ⟨w3.heap.size,0,none⟩ 1 1 [.int .i64 X,.int .i64 Y] rfl rfl (pair_lies _ _ rfl _ _ _) (pair_int _ _) (by unfold maxLen;omega) (by omega) (by simp;omega) ?_)
    intro v' w5 hown hgrow _
    have hB5:=(hB1.alloc hws (.cells #[.int .i64 X,.int .i64 Y] 37)).grown hgrow (by simp;omega) (own_block hO1.out)
    have hO5:Hid (w5.ownsRow (M+1) 37 2 v' (k+1) (pvals ((List.range (k+1)).map fun i=>(uA i,uB i)))):=hidd (by rw [hv.out];exact hown)
    clear hown hgrow hO1 hB1 hws hv
    go_wp2
    go_roundw
    case rel=>exact ⟨k+1,by omega,by go_num,hO5,hB5⟩
    case measure=>simp [intOf];omega
  · obtain rfl:k=6:=by omega
    have PR:PRow wr u6 ((List.range 6).map fun i=>(uA i,uB i)):=own_prow (base:=M+1) (by rw [List.length_map,List.length_range];exact hO.out)
    have BK:=hidd (BE.out u6 wr PR)
    have hBw:=hwb.trans (hB.mono (by omega))
    clear hO PR BE UN hB
    go_wp2_with fail
    refine BK.out.mono ?_
    rintro e w3 ⟨⟨s,L,rfl,q⟩,hb3⟩
    have HR:=hidd (FIN.out s L _ w3 q)
    have hB3:=belowT hBw hb3
    clear q FIN BK
    go_wp2
    go_ret2
    exact ⟨HR.out,hB3⟩
theorem ring_own {w:World} {base n:Nat} {v:Value} {L:List (Int × Int)} (h:w.ownsRow base 26 2 v n (flatG L)) (hn:L.length=n):RingL w v L:=by
 rcases h.2 with ⟨rfl,h0⟩ | ⟨g,cap,cur,rfl,hb,hg,hnc,_⟩
 · exact ⟨none,0,by rw [hn,h0],by omega,fun j hj=>by omega⟩
 · refine ⟨_,cap,by rw [hn],by omega,fun j hj=>⟨g,0,rfl,?_,?_⟩⟩
   · rw [Nat.zero_add,h.cellAt (j*2) (by omega),(flatG_at L j hj).1]
   · rw [Nat.zero_add,h.cellAt (j*2+1) (by omega),(flatG_at L j hj).2]
theorem RowsP.rings {w:World} {base:Nat} {v:Value} {G:List (List (Int × Int))} {S:List Value} (h:RowsP w base v G S):RingsL w v G:=by
 obtain ⟨h1,h2,h3⟩:=h
 rcases h2.2 with ⟨rfl,h0⟩ | ⟨g,cap,cur,rfl,_,_,hnc,_⟩
 · exact ⟨none,0,by rw [h0],by omega,fun j hj=>by omega⟩
 · refine ⟨_,cap,rfl,hnc,fun j hj=>?_⟩
   have hj2:j < S.length:=by omega
   refine ⟨g,0,S[j],rfl,?_,ring_own (h3 j hj2 hj) rfl⟩
   rw [Nat.zero_add,h2.cellAt j (by omega),List.getElem?_eq_getElem hj2]
end Go.Proofs.YtbnlhdnnenahfaaGreatDoor
