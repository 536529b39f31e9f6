/-
  What layer 11's own answer of Fill tells of rings that may be: the words that they are filled by, or that it can't be told; in whatever memory.
-/
import Derived.Test.YtbnlhdnnenahfaaGreatDoorRFill9Y
set_option maxHeartbeats 8000000
set_option maxRecDepth 20000
namespace Go.Proofs.YtbnlhdnnenahfaaGreatDoor
open Go.RowKit
def Et (C:Nat)(G:List (List (Int×Int)))(K r:Nat)(e:Ending)(w':World):Prop :=
 (∃(v:Value) (L:List Int),e=.returned (.tuple #[v,.bool true])/\L.length<=300/\aq L/\(∀x,x∈L↔iI G K r x)/\w'.ownsRow C 35 1 v L.length (aj L)) ∨
 e=.returned (.tuple #[.slice none 0 0,.bool false])
theorem IY (sG:Value)(G:List (List (Int×Int)))(hok:bv G)(lo hi:Int×Int)(hbx:Bx G.flatten lo hi)(r K:Nat)(hK:K<=12)(hr:12-(r:Int)=(K:Int))(w:World)(hG:RingsL w sG G) :
 Calls Tryz.prog 23 #[sG,.int .i64 (r:Int)] w fun e w'=>Et w.heap.size G K r e w'/\Below w.heap.size w w':=by
 have hsz:G.length<=1000000/\∀M∈G,M.length<=1000000:=⟨by have:=(bI.1 hok).1;omega,fun M hM=>by have:=dO hM;have:=(bI.1 hok).2.1;omega⟩
 have BX:Hid (∀w,RingsL w sG G->Calls Tryz.prog 18 #[sG] w fun e w'=>e=.returned (.tuple #[.agg #[.int .i64 lo.1,.int .i64 lo.2],.agg #[.int .i64 hi.1,.int .i64 hi.2]])/\Below w.heap.size w w'):=ab fun w h =>
  (zP sG G hsz.1 hsz.2 w h).mono fun e w' ⟨⟨lo',hi',he,ht⟩,hb⟩=>⟨by
    obtain⟨e1,e2⟩:=BoxT.one ht (.inl ⟨hok,hbx⟩);rw[he,e1,e2],hb⟩
 have hwo:=qM hok hbx;have RB:Hid (∀w,Calls Tryz.prog 44 #[.agg #[.int .i64 lo.1,.int .i64 lo.2],.agg #[.int .i64 hi.1,.int .i64 hi.2],.int .i64 (r:Int),.int .i64 300] w fun e w'=>((∃s L,e=.returned (.tuple #[s,.bool true])/\RowAt 0 w' s L/\aq L/\(∀x,x∈L↔TW K lo.1 lo.2 hi.1 hi.2 x r)/\L.length<=300)∨e=.returned (.tuple #[.slice none 0 0,.bool false]))/\Below w.heap.size w w'):=ab fun w =>
  (Jy lo.1 lo.2 hi.1 hi.2 r K 300 hK hr hwo.1.1 hwo.1.2.1 hwo.1.2.2.1 hwo.1.2.2.2 hwo.2.1 hwo.2.2 (by omega) (by omega) w).mono fun e w' ⟨h,hb⟩=>⟨h.imp id fun k=>k.1,hb⟩
 have RC:=ab fun s (L:List Int) (hL:∀x,x∈L↔TW K lo.1 lo.2 hi.1 hi.2 x r) (hn:L.length<=300) w h=>zN s L r K hK hr (fun x hx=>⟨((hL x).1 hx).1,((hL x).1 hx).2.1⟩) (by omega) lo.1 lo.2 hi.1 hi.2 w h;have RF:=ab fun s (L:List Int) (hL:∀x∈L,Whole x/\wR x=(r:Int)) (hn:L.length<=300) w h1 h2=>Ge sG G hok s L r K hK hr hL (by omega) w h1 h2;have FN:Hid (∀L:List Int,aq L->(∀x,x∈L↔TW K lo.1 lo.2 hi.1 hi.2 x r)->L.length<=300->((∀x∈L.filter (bZ K lo.1 lo.2 hi.1 hi.2),Whole x/\wR x=(r:Int))/\(L.filter (bZ K lo.1 lo.2 hi.1 hi.2)).length<=300)/\((L.filter (bZ K lo.1 lo.2 hi.1 hi.2)).filter (inF G K)).length<=300/\aq ((L.filter (bZ K lo.1 lo.2 hi.1 hi.2)).filter (inF G K))/\∀x,x∈(L.filter (bZ K lo.1 lo.2 hi.1 hi.2)).filter (inF G K)↔iI G K r x):=ab fun L h1 h2 h3 =>
  ⟨⟨fun x hx=>by have k:=(h2 x).1 (List.mem_filter.1 hx).1;exact ⟨k.1,k.2.1⟩,Nat.le_trans (List.length_filter_le _ _) h3⟩,Nat.le_trans (Nat.le_trans (List.length_filter_le _ _) (List.length_filter_le _ _)) h3,(h1.filter _).filter _,fun x=>by
    rw[List.mem_filter,List.mem_filter,h2 x,uG hbx hK];unfold inF;rw[lc hok]⟩
 have HG:=ab hG;obtain⟨pG,cG,rfl,-,-⟩:=hG;obtain⟨nG,enG⟩:∃nG,G.length=nG:=⟨_,rfl⟩
 rw[enG]at HG BX RF ⊢;clear hsz hwo hok hbx hK hr enG;obtain⟨l1,l2⟩:=lo;obtain⟨u1,u2⟩:=hi;dsimp only at BX RB RC FN
 go_enter Tryz.func23,Tryz.ntmps23
 go_wp2_with fail;refine(BX.out _ HG.out).mono ?_;rintro e w2 ⟨rfl,b2⟩;have B2:=ab (ae (ae b2 (ag w2 (.cells #[.int .i64 l1,.int .i64 l2] 26))) (ag _ (.cells #[.int .i64 u1,.int .i64 u2] 26)));have c0:((w2.alloc (.cells #[.int .i64 l1,.int .i64 l2] 26)).alloc (.cells #[.int .i64 u1,.int .i64 u2] 26)).cell? ⟨w2.heap.size,0,none⟩=some (.int .i64 l1):=by go_simp
 have c1:((w2.alloc (.cells #[.int .i64 l1,.int .i64 l2] 26)).alloc (.cells #[.int .i64 u1,.int .i64 u2] 26)).cell? ⟨w2.heap.size,1,none⟩=some (.int .i64 l2):=by go_simp
 have d0:((w2.alloc (.cells #[.int .i64 l1,.int .i64 l2] 26)).alloc (.cells #[.int .i64 u1,.int .i64 u2] 26)).cell? ⟨w2.heap.size+1,0,none⟩=some (.int .i64 u1):=by go_simp
 have d1:((w2.alloc (.cells #[.int .i64 l1,.int .i64 l2] 26)).alloc (.cells #[.int .i64 u1,.int .i64 u2] 26)).cell? ⟨w2.heap.size+1,1,none⟩=some (.int .i64 u2):=by go_simp
 clear BX b2;go_wp2_with fail;generalize (w2.alloc (.cells #[.int .i64 l1,.int .i64 l2] 26)).alloc (.cells #[.int .i64 u1,.int .i64 u2] 26)=w3 at *;refine(RB.out _).mono ?_;rintro e w4 ⟨⟨s,L,rfl,h1,h2,h3,h4⟩ | rfl,b4⟩
 · replace c0:=aa b4 c0;replace c1:=aa b4 c1;replace d0:=aa b4 d0;replace d1:=aa b4 d1;have B4:=ab (ae B2.out b4);have FF:=ab (FN.out L h2 h3 h4);have CC:=ab (RC.out s L h3 h4 _ h1);clear RB RC FN b4 B2 h1 h2 h3 h4;generalize L.filter (bZ K l1 l2 u1 u2)=M at *;go_wp2_with fail;refine CC.out.mono ?_;rintro e w5 ⟨⟨v5,rfl,o5⟩,b5⟩;have B5:=ab (ae B4.out b5);have R5:=ab (RF.out v5 M FF.out.1.1 FF.out.1.2 _ (HG.out.keep B5.out) ((fh o5).mono (Nat.zero_le _)));have FE:=ab FF.out.2;clear CC b5 B4 FF RF o5 c0 c1 d0 d1;generalize M.filter (inF G K)=N at *;go_wp2_with fail;refine R5.out.mono ?_;rintro e w6 ⟨⟨v6,rfl,o6⟩,b6⟩;have O6:=ab (bo o6 B5.out.size);have B6:=ab (ae B5.out b6);clear R5 o6 b6 B5;go_wp2_with fail
   go_ret2
   exact⟨.inl ⟨_,N,rfl,FE.out.1,FE.out.2.1,FE.out.2.2,O6.out⟩,B6.out⟩
 · have B4:=ab (ae B2.out b4);clear RB RC FN b4 B2 c0 c1 d0 d1;go_wp2_with fail
   go_ret2
   exact⟨.inr rfl,B4.out⟩
end Go.Proofs.YtbnlhdnnenahfaaGreatDoor
