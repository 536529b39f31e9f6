/-
  What the document's own beside and around tell: the words of a cell's places, rising; the places of so many steps, for small radii; in whatever memory.
-/
import Derived.Test.YtdklpgphmoaniaaGreatDoorJn28
namespace Go.Proofs.YtdklpgphmoaniaaGreatDoor
open Go.RowKit
theorem infoE:(Tryz.prog.info? 23).map (fun i=>(i.zero,i.size,i.bytes))=some (some (.agg #[.int .i64 0,.int .i64 0]),2,16):=by kernel_rfl
theorem stp_ref (a b:Int):max (max (a.natAbs:Int) b.natAbs) (a+b).natAbs=stp a b:=by
 unfold stp
 rw [show max 0 (a.natAbs:Int)=(a.natAbs:Int) by omega]
def pvals (P:List (Int × Int)):List Value:=P.flatMap fun p=>[.int .i64 p.1,.int .i64 p.2]
theorem pvals_step (P:List (Int × Int)) (p q:Int):pvals (P++[(p,q)])=pvals P++[.int .i64 p,.int .i64 q]:=by unfold pvals;rw [List.flatMap_append];rfl
theorem pvals_at:∀ (P:List (Int × Int)) (j:Nat) (h:j < P.length),(pvals P)[j*2]?=some (.int .i64 P[j].1)∧(pvals P)[j*2+1]?=some (.int .i64 P[j].2)
 | p :: P,0,_=>⟨rfl,rfl⟩
 | p :: P,j+1,h=>by
  have:=pvals_at P j (by simpa using h)
  have e:pvals (p :: P)=.int .i64 p.1 :: .int .i64 p.2 :: pvals P:=rfl
  rw [e,show (j+1)*2=j*2+1+1 by omega,show j*2+1+1+1=(j*2+1)+1+1 by omega]
  simpa using this
theorem pair_lies (w:World) (B:Nat) (h:w.heap.size=B) (x y:Value) (e:TypeId):∀ j u,([x,y]:List Value)[j]?=some u→(w.alloc (.cells #[x,y] e)).cell? ((⟨B,0,none⟩:Addr).add j)=some u:=by
 subst h
 intro j u hj
 match j,hj with
 | 0,hj=>simp at hj;subst hj;simp [Addr.add]
 | 1,hj=>simp at hj;subst hj;simp [Addr.add]
theorem pair_int (x y:Int):∀ u∈([.int .i64 x,.int .i64 y]:List Value),u.oneCell'=true:=by
 intro u hu
 simp at hu
 rcases hu with rfl | rfl <;>rfl
theorem own_row {w:World} {base:Nat} {v:Value} {L:List Int} (h:w.ownsRow base 31 1 v L.length (vals L)):RowAt base w v L:=by
 rcases h.2 with ⟨hv,h0⟩ | ⟨g,cap,cur,hv,_⟩
 · exact Or.inl ⟨List.length_eq_zero_iff.1 h0,hv⟩
 · subst hv
   have hc:=own_cells h
   exact Or.inr ⟨g,cap,rfl,hc.2.2.1,hc.2.1⟩
def PRow (w:World) (v:Value) (P:List (Int × Int)):Prop:=∃ p cap,v=.slice p P.length cap∧∀ (j:Nat) (hj:j < P.length),∃ g,p=some ⟨g,0,none⟩∧w.cell? ⟨g,j*2,none⟩=some (.int .i64 P[j].1)∧w.cell? ⟨g,j*2+1,none⟩=some (.int .i64 P[j].2)
theorem own_prow {w:World} {base:Nat} {v:Value} {P:List (Int × Int)} (h:w.ownsRow base 23 2 v P.length (pvals P)):PRow w v P:=by
 rcases h.2 with ⟨hv,h0⟩ | ⟨g,cap,cur,hv,_⟩
 · exact ⟨none,0,by rw [h0];exact hv,fun j hj=>by omega⟩
 · subst hv
   refine ⟨_,cap,rfl,fun j hj=>⟨g,rfl,?_,?_⟩⟩
   · rw [h.cellAt (j*2) (by omega),(pvals_at P j hj).1]
   · rw [h.cellAt (j*2+1) (by omega),(pvals_at P j hj).2]
theorem PRow.keep {w w':World} {v:Value} {P:List (Int × Int)} (h:PRow w v P) (hb:Below w.heap.size w w'):PRow w' v P:=by
 obtain ⟨p,cap,h1,h2⟩:=h
 exact ⟨p,cap,h1,fun j hj=>by obtain ⟨g,e,x,y⟩:=h2 j hj;exact ⟨g,e,keepCell hb x,keepCell hb y⟩⟩
set_option maxHeartbeats 1000000 in
theorem rset_nil (w:World):Calls Tryz.prog 55 #[.slice none 0 0] w fun e w'=>e=.returned (.slice none 0 0)∧Below w.heap.size w w':=by
 go_enter Tryz.func55,Tryz.ntmps55
 go_wp2_with fail
 go_loopw [3,4] (fun v3 v4 wr=>v3=.slice none 0 0∧v4=.int .i64 0∧wr=w) (fun _ _ _=>0)
 case atStart=>exact ⟨rfl,rfl,rfl⟩
 case round =>
  obtain ⟨rfl,rfl,rfl⟩:=hrel
  go_wp2
  go_ret
  exact ⟨rfl,Below.refl _ _⟩
theorem rset_own (X:List Int) (hn:X.length≤20000) (hU:∀ x∈X,U64 x) (base:Nat) (v:Value) (w:World) (h:w.ownsRow base 31 1 v X.length (vals X)) :
 Calls Tryz.prog 55 #[v] w fun e w'=>(∃ (s:Value) (L:List Int),e=.returned s∧Rising L∧(∀ x,x∈L↔x∈X)∧L.length≤X.length∧w'.ownsRow w.heap.size 31 1 s L.length (vals L))∧Below w.heap.size w w':=by
 rcases h.2 with ⟨hv,h0⟩ | ⟨g,cap,cur,hv,_⟩
 · have hX:X=[]:=List.length_eq_zero_iff.1 h0
   subst hv hX
   refine (rset_nil w).mono ?_
   rintro e w' ⟨rfl,hb⟩
   exact ⟨⟨_,[],rfl,List.Pairwise.nil,fun x=>Iff.rfl,Nat.le_refl _,World.ownsRow_nil _ _ _ _⟩,hb⟩
 · subst hv
   have hc:=own_cells h
   exact rset_all X X.length rfl hn hU g cap w hc.2.1
set_option maxHeartbeats 1000000 in
theorem rword_none (r a b:Int) (h:¬ Ok4 r a b) (w:World) :
 Calls Tryz.prog 13 #[.agg #[.int .i64 r,.int .i64 a,.int .i64 b]] w fun e w'=>e=.returned (.tuple #[.int .u64 0,.int .i64 2])∧Below w.heap.size w w':=by
 have OK:Hid (∀ w,Calls Tryz.prog 34 #[.agg #[.int .i64 r,.int .i64 a,.int .i64 b]] w fun e w'=>e=.returned (.bool false)∧Below w.heap.size w w'):=fun w=>by rw [← ok4_no h];exact rok_any r a b w
 clear h
 go_enter Tryz.func13,Tryz.ntmps13
 go_wp2_with fail
 refine (OK.out _).mono ?_
 rintro e w1 ⟨rfl,d1⟩
 have c1:Below w.heap.size w w1:=Below.trans (by go_grown) (d1.mono (by simp;try omega))
 have hB:=c1
 clear c1 d1
 go_wp2
 go_ret2
 exact ⟨rfl,hB⟩
theorem keepFive {w0 a b:World} {p0 p1 p2 p3 p4:Addr} {v0 v1 v2 v3 v4:Value} (hb:Below a.heap.size a b) (h:a.cell? p0=some v0∧a.cell? p1=some v1∧a.cell? p2=some v2∧a.cell? p3=some v3∧a.cell? p4=some v4∧Below w0.heap.size w0 a) :
 b.cell? p0=some v0∧b.cell? p1=some v1∧b.cell? p2=some v2∧b.cell? p3=some v3∧b.cell? p4=some v4∧Below w0.heap.size w0 b :=
 ⟨keepCell hb h.1,keepCell hb h.2.1,keepCell hb h.2.2.1,keepCell hb h.2.2.2.1,keepCell hb h.2.2.2.2.1,belowT h.2.2.2.2.2 hb⟩
set_option maxHeartbeats 8000000 in
set_option maxRecDepth 20000 in
theorem rbeside (r:Nat) (a b:Int) (ha: -500000000≤a∧a≤500000000) (hb: -500000000≤b∧b≤500000000) (P:List (Int × Int)) (hP:P.length≤1000) (hPs:∀ p∈P,stp p.1 p.2≤1000) (v:Value) (w:World) (h:PRow w v P) :
 Calls Tryz.prog 88 #[.agg #[.int .i64 r,.int .i64 a,.int .i64 b],v] w fun e w'=>(∃ (s:Value) (L:List Int),e=.returned s∧Rising L∧(∀ x,x∈L↔x∈wordsAt r a b P)∧L.length≤1000∧RowAt w.heap.size w' s L)∧Below w.heap.size w w':=by
 obtain ⟨p,cap,rfl,hp⟩:=h
 obtain ⟨n,en⟩:∃ n,P.length=n:=⟨_,rfl⟩
 have EN:=hidd en
 have HP:=hidd hp
 have HS:=hidd hPs
 rw [en] at hP ⊢
 obtain ⟨i0,hi,hz0,hz1,hz2⟩:=info_parts infoU64
 have z0:(w.alloc (.cells #[.int .i64 r,.int .i64 a,.int .i64 b] 25)).cell? ⟨w.heap.size,0,none⟩=some (.int .i64 r):=by go_simp
 have z1:(w.alloc (.cells #[.int .i64 r,.int .i64 a,.int .i64 b] 25)).cell? ⟨w.heap.size,1,none⟩=some (.int .i64 a):=by go_simp
 have z2:(w.alloc (.cells #[.int .i64 r,.int .i64 a,.int .i64 b] 25)).cell? ⟨w.heap.size,2,none⟩=some (.int .i64 b):=by go_simp
 have hwb:Below w.heap.size w (w.alloc (.cells #[.int .i64 r,.int .i64 a,.int .i64 b] 25)):=allocB _ _
 have hWs:(w.alloc (.cells #[.int .i64 r,.int .i64 a,.int .i64 b] 25)).heap.size=w.heap.size+1:=by simp
 clear en hp hPs
 go_enter Tryz.func88,Tryz.ntmps88
 go_wp2_with fail
 generalize (w.alloc (.cells #[.int .i64 r,.int .i64 a,.int .i64 b] 25))=W at z0 z1 z2 hwb hWs ⊢
 go_loopw [5,6] (fun v5 v6 wr=>∃ (k:Nat),k≤n∧v6=.int .i64 (k:Int)∧Hid (wr.ownsRow (w.heap.size+1) 31 1 v5 (wordsAt r a b (P.take k)).length (vals (wordsAt r a b (P.take k))))∧Below (w.heap.size+1) W wr) (fun _ v6 _=>n - (intOf v6).toNat)
 case atStart=>exact ⟨0,by omega,rfl,hidd own_nil,Below.refl _ _⟩
 case round =>
  obtain ⟨k,hk,rfl,hO,hB⟩:=hrel
  have y0:=keepLow hB z0 (Nat.lt_succ_self _)
  have y1:=keepLow hB z1 (Nat.lt_succ_self _)
  have y2:=keepLow hB z2 (Nat.lt_succ_self _)
  by_cases hlt:k < n
  · have hkP:k < P.length:=by rw [EN.out];exact hlt
    obtain ⟨g,rfl,x1,x2⟩:=HP.out k hkP
    replace x1:=keepLow hB (keepCell hwb x1) (by have:=World.block_lt_of_cell? _ _ x1;exact Nat.lt_succ_of_lt this)
    replace x2:=keepLow hB (keepCell hwb x2) (by have:=World.block_lt_of_cell? _ _ x2;exact Nat.lt_succ_of_lt this)
    have hst:=HS.out _ (List.getElem_mem hkP)
    have hTK:Hid (wordsAt r a b (P.take (k+1))=wordsAt r a b (P.take k)++wordAt r (a+P[k].1) (b+P[k].2)):=hidd (by rw [List.take_succ_eq_append_getElem hkP,wordsAt_append,wordsAt_one])
    generalize P[k].1=X at *
    generalize P[k].2=Y at *
    have hge:=stp_ge X Y
    have hXY:(-1000≤X∧X≤1000)∧(-1000≤Y∧Y≤1000):=by omega
    clear hst hge
    have hwl:(wordsAt r a b (P.take k)).length≤1000:=by have h1:=wordsAt_len r a b (P.take k);rw [List.length_take] at h1;omega
    have hWB:w.heap.size+1≤wr.heap.size:=by have:=hB.size;omega
    by_cases hok:Ok4 (r:Int) (a+X) (b+Y)
    · have RW:=hidd (rword_yes r (a+X) (b+Y) hok)
      rw [wordAt_yes hok] at hTK
      have hvl:Hid (vals (wordsAt r a b (P.take (k+1)))=vals (wordsAt r a b (P.take k))++[.int .u64 (wordOf r (a+X) (b+Y))]∧(wordsAt r a b (P.take (k+1))).length=(wordsAt r a b (P.take k)).length+1):=hidd (by rw [hTK.out];exact ⟨by simp [vals],by simp⟩)
      generalize wordOf r (a+X) (b+Y)=z at *
      have RX:=RW
      rw [← show IntKind.i64.wrap (a+X)=a+X by rw [IntKind.wrap_i64];omega,← show IntKind.i64.wrap (b+Y)=b+Y by rw [IntKind.wrap_i64];omega] at RX
      generalize hLL:wordsAt r a b (P.take k)=LL at *
      clear hok hLL hTK
      go_wp2_with fail
      have hS0:wr.drew.cell? ⟨w.heap.size,0,none⟩=some (.int .i64 r)∧wr.drew.cell? ⟨w.heap.size,1,none⟩=some (.int .i64 a)∧wr.drew.cell? ⟨w.heap.size,2,none⟩=some (.int .i64 b)∧wr.drew.cell? ⟨g,k*2,none⟩=some (.int .i64 X)∧wr.drew.cell? ⟨g,k*2+1,none⟩=some (.int .i64 Y)∧Below wr.heap.size wr wr.drew:=⟨y0,y1,y2,x1,x2,(Below.refl _ _).drew⟩
      go_region_held3 (fun w'=>w'.cell? ⟨w.heap.size,0,none⟩=some (.int .i64 r)∧w'.cell? ⟨w.heap.size,1,none⟩=some (.int .i64 a)∧w'.cell? ⟨w.heap.size,2,none⟩=some (.int .i64 b)∧w'.cell? ⟨g,k*2,none⟩=some (.int .i64 X)∧w'.cell? ⟨g,k*2+1,none⟩=some (.int .i64 Y)∧Below wr.heap.size wr w') (first | exact hS0 | exact keepFive hb (by assumption)) (first | (go_at_call 13;with_reducible refine (RX.out _).mono ?_;rintro e w' ⟨rfl,hb⟩) | (go_at_call 13;with_reducible refine (RW.out _).mono ?_;rintro e w' ⟨rfl,hb⟩))
      all_goals
       rename_i hS
       have hW:=hS.2.2.2.2.2
       have hO1:=hidd (own_keep hW hO.out)
       have hBw:Below (w.heap.size+1) W w':=hB.trans (hW.mono (by omega))
       have hws:w.heap.size+1≤w'.heap.size:=by have:=hW.size;omega
       clear hS hS0 hO hB y0 y1 y2 x1 x2 hb RW RX hW
       go_wp2_with (at_builtin;refine wpList_append_own _ rfl (.tmp 43) (.tmp 45) 34 rfl (w.heap.size+1) 31 i0 (.int .u64 0) 1 8 Tryz.underlying34 hi hz0 hz1 hz2 rfl (by decide) _ _ _ rfl (own_keep (allocB _ _) hO1.out) ⟨w'.heap.size,0,none⟩ 1 1 [.int .u64 z] rfl rfl (one_lies _ _ rfl _ _) (one_int _ _) (by unfold maxLen;omega) (by omega) (by simp;omega) ?_)
       intro v' w5 hown hgrow _
       have hB5:=(hBw.alloc hws (.cells #[.int .u64 z] 31)).grown hgrow (by simp;omega) (own_block hO1.out)
       have hO5:Hid (w5.ownsRow (w.heap.size+1) 31 1 v' (wordsAt r a b (P.take (k+1))).length (vals (wordsAt r a b (P.take (k+1))))):=hidd (by rw [hvl.out.1,hvl.out.2];exact hown)
       clear hown hgrow hO1 hBw hws hvl
       go_wp2
       go_roundw
       case rel=>exact ⟨k+1,by omega,by go_num,hO5,hB5⟩
       case measure=>simp [intOf];omega
    · have RW:=hidd (rword_none (r:Int) (a+X) (b+Y) hok)
      rw [wordAt_no hok,List.append_nil] at hTK
      rw [← hTK.out] at hO
      have RX:=RW
      rw [← show IntKind.i64.wrap (a+X)=a+X by rw [IntKind.wrap_i64];omega,← show IntKind.i64.wrap (b+Y)=b+Y by rw [IntKind.wrap_i64];omega] at RX
      clear hTK hok
      go_wp2_with fail
      have hS0:wr.drew.cell? ⟨w.heap.size,0,none⟩=some (.int .i64 r)∧wr.drew.cell? ⟨w.heap.size,1,none⟩=some (.int .i64 a)∧wr.drew.cell? ⟨w.heap.size,2,none⟩=some (.int .i64 b)∧wr.drew.cell? ⟨g,k*2,none⟩=some (.int .i64 X)∧wr.drew.cell? ⟨g,k*2+1,none⟩=some (.int .i64 Y)∧Below wr.heap.size wr wr.drew:=⟨y0,y1,y2,x1,x2,(Below.refl _ _).drew⟩
      go_region_held3 (fun w'=>w'.cell? ⟨w.heap.size,0,none⟩=some (.int .i64 r)∧w'.cell? ⟨w.heap.size,1,none⟩=some (.int .i64 a)∧w'.cell? ⟨w.heap.size,2,none⟩=some (.int .i64 b)∧w'.cell? ⟨g,k*2,none⟩=some (.int .i64 X)∧w'.cell? ⟨g,k*2+1,none⟩=some (.int .i64 Y)∧Below wr.heap.size wr w') (first | exact hS0 | exact keepFive hb (by assumption)) (first | (go_at_call 13;with_reducible refine (RX.out _).mono ?_;rintro e w' ⟨rfl,hb⟩) | (go_at_call 13;with_reducible refine (RW.out _).mono ?_;rintro e w' ⟨rfl,hb⟩))
      all_goals
       rename_i hS
       have hW:=hS.2.2.2.2.2
       have hO1:=hidd (own_keep hW hO.out)
       have hBw:Below (w.heap.size+1) W w':=hB.trans (hW.mono (by omega))
       clear hS hS0 hO hB y0 y1 y2 x1 x2 hb RW RX hW
       go_wp2
       go_roundw
       case rel=>exact ⟨k+1,by omega,by go_num,hO1,hBw⟩
       case measure=>simp [intOf];omega
  · obtain rfl:k=n:=by omega
    have eP:P.take k=P:=List.take_of_length_le (by rw [EN.out];omega)
    rw [eP] at hO
    have hwl:=wordsAt_len r a b P
    rw [EN.out] at hwl
    have hU:∀ x∈wordsAt r a b P,U64 x:=fun x hx=>by
     obtain ⟨p',q',-,hO',rfl⟩:=mem_wordsAt.1 hx
     have:=(word_parts hO').2.2.2.2.2
     exact ⟨this.1,by omega⟩
    have hlen:Hid ((wordsAt r a b P).length≤k):=hidd hwl
    have SE:=hidd (rset_own (wordsAt r a b P) (by omega) hU (w.heap.size+1) u5 wr hO.out)
    have hBw:Below w.heap.size w wr:=hwb.trans (hB.mono (by omega))
    clear hO HP HS EN eP hwl hU y0 y1 y2 z0 z1 z2
    go_wp2_with fail
    refine SE.out.mono ?_
    rintro e w1 ⟨⟨s,L,rfl,hR,hM,hLn,hOw⟩,hb1⟩
    have HR:=hidd (And.intro hR (And.intro hM (And.intro (show L.length≤1000 by have:=hlen.out;omega) (RowAt.mono (own_row hOw) hBw.size))))
    have hB1:=belowT hBw hb1
    clear hR hM hLn hOw SE
    go_wp2
    go_ret
    exact ⟨⟨s,L,rfl,HR.out⟩,hB1⟩
theorem around_low {x y hi:Int} (h1:x < -hi) (h2:stp x y≤hi):False:=by have:=stp_ge x y;omega
theorem keepThree {w0 a b:World} {p0 p1 p2:Addr} {v0 v1 v2:Value} (hb:Below a.heap.size a b) (h:a.cell? p0=some v0∧a.cell? p1=some v1∧a.cell? p2=some v2∧Below w0.heap.size w0 a) :
 b.cell? p0=some v0∧b.cell? p1=some v1∧b.cell? p2=some v2∧Below w0.heap.size w0 b :=
 ⟨keepCell hb h.1,keepCell hb h.2.1,keepCell hb h.2.2.1,belowT h.2.2.2 hb⟩
def RefSay (v:Int) (Q:Int × Int→Prop) (e:Ending) (w:World):Prop:=∃ (s:Value) (L:List Int),e=.returned (.tuple #[s,.int .i64 0])∧RowAt 0 w s L∧Rising L∧(∀ x,x∈L↔∃ p q,Q (p,q)∧Ok4 (wR v) (cellA v+p) (cellB v+q)∧x=wordOf (wR v).toNat (cellA v+p) (cellB v+q))∧L.length≤1000
theorem words_iff {r:Nat} {a b:Int} {P:List (Int × Int)} {Q:Int × Int→Prop} (h:∀ x,x∈P↔Q x) (x:Int):x∈wordsAt r a b P↔∃ p q,Q (p,q)∧Ok4 (r:Int) (a+p) (b+q)∧x=wordOf r (a+p) (b+q):=by
 rw [mem_wordsAt]
 constructor
 · rintro ⟨p,q,h1,h2⟩;exact ⟨p,q,(h _).1 h1,h2⟩
 · rintro ⟨p,q,h1,h2⟩;exact ⟨p,q,(h _).2 h1,h2⟩
theorem Rows.ref {v:Int} {P:List (Int × Int)} {L M:List Int} {Q:Int × Int→Prop} (h:Rows (wR v).toNat (cellA v) (cellB v) P L) (hP:∀ x,x∈P↔Q x) (hM:Rising M) (hm:∀ x,x∈M↔∃ p q,Q (p,q)∧Ok4 (wR v) (cellA v+p) (cellB v+q)∧x=wordOf (wR v).toNat (cellA v+p) (cellB v+q)):L=M:=by
 refine rising_ext h.2 hM fun x=>?_
 have hr:=wR_box v
 rw [h.1.mem_iff,words_iff hP,hm,show (((wR v).toNat:Nat):Int)=wR v by omega]
theorem unit_iff (x:Int × Int):x∈(List.range 6).map (fun i=>(uA i,uB i))↔stp x.1 x.2=1:=by
 rw [stp_iff (by omega)]
 constructor
 · intro h
   obtain ⟨i,hi,rfl⟩:=List.mem_map.1 h
   rcases six_cases (List.mem_range.1 hi) with rfl | rfl | rfl | rfl | rfl | rfl <;>decide
 · intro h
   rw [List.mem_map]
   have:(x.1=1∧x.2=0)∨(x.1=0∧x.2=1)∨(x.1= -1∧x.2=1)∨(x.1= -1∧x.2=0)∨(x.1=0∧x.2= -1)∨(x.1=1∧x.2= -1):=by omega
   rcases this with h | h | h | h | h | h
   · exact ⟨0,by decide,Prod.ext h.1.symm h.2.symm⟩
   · exact ⟨1,by decide,Prod.ext h.1.symm h.2.symm⟩
   · exact ⟨2,by decide,Prod.ext h.1.symm h.2.symm⟩
   · exact ⟨3,by decide,Prod.ext h.1.symm h.2.symm⟩
   · exact ⟨4,by decide,Prod.ext h.1.symm h.2.symm⟩
   · exact ⟨5,by decide,Prod.ext h.1.symm h.2.symm⟩
set_option maxHeartbeats 8000000 in
set_option maxRecDepth 20000 in
theorem rneigh_yes (v:Int) (hv:Whole v) (w:World) :
 Calls Tryz.prog 54 #[.int .u64 v] w fun e w'=>RefSay v (fun x=>stp x.1 x.2=1) e w'∧Below w.heap.size w w':=by
 have CE:=hidd (rwcell_yes v hv)
 have p1:=ok4_part (cell_ok hv)
 have hr:=wR_box v
 obtain ⟨r,er⟩:∃ r:Nat,wR v=r:=⟨(wR v).toNat,by omega⟩
 have FIN:Hid (∀ (s:Value) (L:List Int) (C:Nat) (w':World),(Rising L∧(∀ x,x∈L↔x∈wordsAt r (cellA v) (cellB v) ((List.range 6).map fun i=>(uA i,uB i)))∧L.length≤1000∧RowAt C w' s L)→RefSay v (fun x=>stp x.1 x.2=1) (.returned (.tuple #[s,.int .i64 0])) w'):=by
  refine hidd fun s L C w' ⟨h1,h2,h3,h4⟩=>⟨s,L,rfl,h4.mono (Nat.zero_le _),h1,fun x=>?_,h3⟩
  rw [h2 x,er,show ((r:Int)).toNat=r by omega]
  exact words_iff (Q:=fun x=>stp x.1 x.2=1) (fun x=>unit_iff x) x
 rw [er] at CE
 have BE:Hid (∀ (v':Value) (w:World),PRow w v' ((List.range 6).map fun i=>(uA i,uB i))→_):=hidd (fun v' w h=>rbeside r (cellA v) (cellB v) (by omega) (by omega) ((List.range 6).map fun i=>(uA i,uB i)) (by simp) (fun x hx=>by have:=(unit_iff x).1 hx;omega) v' w h)
 have UN:Hid (∀ k:Nat,k < 6→∀ w,Calls Tryz.prog 41 #[.int .i64 (k:Int)] w fun e w'=>e=.returned (.agg #[.int .i64 (uA k),.int .i64 (uB k)])∧Below w.heap.size w w'):=by
  refine hidd fun k hk w=>?_
  have:=refunit_any (k:Int) w
  rw [show (k:Int)%6=k by omega] at this
  have hu:unitA (k:Int)=uA k∧unitB (k:Int)=uB k:=by rcases six_cases hk with rfl | rfl | rfl | rfl | rfl | rfl <;>decide
  rwa [hu.1,hu.2] at this
 obtain ⟨i0,hi',hz0,hz1,hz2⟩:=info_parts infoE
 generalize cellA v=a at *
 generalize cellB v=b at *
 clear hv p1 hr er
 go_enter Tryz.func54,Tryz.ntmps54
 go_wp2_with fail
 refine (CE.out _).mono ?_
 rintro e w1 ⟨rfl,d1⟩
 have c1:Below w.heap.size w w1:=Below.trans (by go_grown) (d1.mono (by simp;try omega))
 have hB:=c1
 clear c1 d1
 have z0:(w1.alloc (.cells #[.int .i64 r,.int .i64 a,.int .i64 b] 25)).cell? ⟨w1.heap.size,0,none⟩=some (.int .i64 r):=by go_simp
 have z1:(w1.alloc (.cells #[.int .i64 r,.int .i64 a,.int .i64 b] 25)).cell? ⟨w1.heap.size,1,none⟩=some (.int .i64 a):=by go_simp
 have z2:(w1.alloc (.cells #[.int .i64 r,.int .i64 a,.int .i64 b] 25)).cell? ⟨w1.heap.size,2,none⟩=some (.int .i64 b):=by go_simp
 have hwb:=belowT hB (allocB w1 (.cells #[.int .i64 r,.int .i64 a,.int .i64 b] 25))
 have hWs:(w1.alloc (.cells #[.int .i64 r,.int .i64 a,.int .i64 b] 25)).heap.size=w1.heap.size+1:=by simp
 go_wp2_with fail
 generalize (w1.alloc (.cells #[.int .i64 r,.int .i64 a,.int .i64 b] 25))=W at z0 z1 z2 hwb hWs ⊢
 have hWl:w.heap.size≤w1.heap.size:=hB.size
 generalize w1.heap.size=M at z0 z1 z2 hWs hWl ⊢
 clear hB CE
 go_loopw [6,7] (fun v6 v7 wr=>∃ k:Nat,k≤6∧v7=.int .i64 (k:Int)∧Hid (wr.ownsRow (M+1) 23 2 v6 k (pvals ((List.range k).map fun i=>(uA i,uB i))))∧Below (M+1) W wr) (fun _ v7 _=>6 - (intOf v7).toNat)
 case atStart=>exact ⟨0,by omega,rfl,World.ownsRow_nil _ _ _ _,Below.refl _ _⟩
 case round =>
  obtain ⟨k,hk,rfl,hO,hB⟩:=hrel
  have y0:=keepLow hB z0 (Nat.lt_succ_self _)
  have y1:=keepLow hB z1 (Nat.lt_succ_self _)
  have y2:=keepLow hB z2 (Nat.lt_succ_self _)
  by_cases hlt:k < 6
  · have UK:=hidd (UN.out k hlt)
    have hv:Hid (pvals ((List.range (k+1)).map fun i=>(uA i,uB i))=pvals ((List.range k).map fun i=>(uA i,uB i))++[.int .i64 (uA k),.int .i64 (uB k)]):=hidd (by rw [List.range_succ,List.map_append];exact pvals_step _ _ _)
    generalize uA k=X at *
    generalize uB k=Y at *
    clear y0 y1 y2
    go_wp2_with fail
    refine (UK.out wr).mono ?_
    rintro e w3 ⟨rfl,hb1⟩
    have hO1:=hidd (own_keep hb1 hO.out)
    have hB1:=hB.trans (hb1.mono (by have:=hB.size;omega))
    have hws:M+1≤w3.heap.size:=by have:=hB1.size;omega
    clear hO hB hb1 UK
    go_wp2_with (at_builtin;refine wpList_append_own _ rfl (.tmp 20) (.tmp 23) 76 rfl (M+1) 23 i0 (.agg #[.int .i64 0,.int .i64 0]) 2 16 Tryz.underlying76 hi' hz0 hz1 hz2 rfl (by decide) _ _ _ rfl (own_keep (allocB _ _) hO1.out) ⟨w3.heap.size,0,none⟩ 1 1 [.int .i64 X,.int .i64 Y] rfl rfl (pair_lies _ _ rfl _ _ _) (pair_int _ _) (by unfold maxLen;omega) (by omega) (by simp;omega) ?_)
    intro v' w5 hown hgrow _
    have hB5:=(hB1.alloc hws (.cells #[.int .i64 X,.int .i64 Y] 23)).grown hgrow (by simp;omega) (own_block hO1.out)
    have hO5:Hid (w5.ownsRow (M+1) 23 2 v' (k+1) (pvals ((List.range (k+1)).map fun i=>(uA i,uB i)))):=hidd (by rw [hv.out];exact hown)
    clear hown hgrow hO1 hB1 hws hv
    go_wp2
    go_roundw
    case rel=>exact ⟨k+1,by omega,by go_num,hO5,hB5⟩
    case measure=>simp [intOf];omega
  · obtain rfl:k=6:=by omega
    have PR:PRow wr u6 ((List.range 6).map fun i=>(uA i,uB i)):=own_prow (base:=M+1) (by rw [List.length_map,List.length_range];exact hO.out)
    have BK:=hidd (BE.out u6 wr PR)
    have hBw:=hwb.trans (hB.mono (by omega))
    clear hO PR BE UN hB
    go_wp2_with fail
    refine BK.out.mono ?_
    rintro e w3 ⟨⟨s,L,rfl,q⟩,hb3⟩
    have HR:=hidd (FIN.out s L _ w3 q)
    have hB3:=belowT hBw hb3
    clear q FIN BK
    go_wp2
    go_ret2
    exact ⟨HR.out,hB3⟩
set_option maxHeartbeats 2000000 in
theorem rneigh_no (v:Int) (hv:U64 v) (h:¬ Whole v) (w:World) :
 Calls Tryz.prog 54 #[.int .u64 v] w fun e w'=>e=.returned (.tuple #[.slice none 0 0,.int .i64 5])∧Below w.heap.size w w':=by
 have CE:=hidd (rwcell_no v hv h)
 go_enter Tryz.func54,Tryz.ntmps54
 go_wp2_with fail
 refine (CE.out _).mono ?_
 rintro e w1 ⟨rfl,d1⟩
 have c1:Below w.heap.size w w1:=Below.trans (by go_grown) (d1.mono (by simp;try omega))
 have hB:=c1
 clear c1 d1
 go_wp2
 go_ret2
 exact ⟨rfl,belowT hB (by go_grown)⟩
end Go.Proofs.YtdklpgphmoaniaaGreatDoor
