/-
  What the document's own Fill tells of rings that may be and of a row of words: those whose cells' centres lie inside; in whatever memory.
-/
import Derived.Test.YtbnlhdnnenahfaaGreatDoorRPInY
import Derived.Test.YtbnlhdnnenahfaaGreatDoorFXY
set_option maxHeartbeats 8000000
set_option maxRecDepth 20000
namespace Go.Proofs.YtbnlhdnnenahfaaGreatDoor
open Go.RowKit
theorem Ge (sG:Value)(G:List (List (Int×Int)))(hok:bv G)(s:Value)(L:List Int)(r K:Nat)(hK:K<=12)(hr:12-(r:Int)=(K:Int))(hL:∀x∈L,Whole x/\wR x=(r:Int))(hn:L.length<=40000)(w:World)(hG:RingsL w sG G)(h:RowAt 0 w s L) :
 Calls Tryz.prog 45 #[sG,s] w fun e w'=>(∃v,e=.returned v/\w'.ownsRow w.heap.size 35 1 v (L.filter (inF G K)).length (aj (L.filter (inF G K))))/\Below w.heap.size w w':=by
 have hG1:G.length<=1000000:=by have:=(bI.1 hok).1;omega
 have hG2:∀M∈G,M.length<=1000000:=fun M hM=>by have:=dO hM;have:=(bI.1 hok).2.1;omega
 have IN:=ab fun x y w h=>Da sG G x y (inQ G x y) (lc hok) hG1 hG2 w h;have HG:=ab hG;obtain⟨p,cap,rfl,hp⟩:=h.form;obtain⟨n,en⟩:∃n,L.length=n:=⟨_,rfl⟩
 have EN:=ab en;have HP:=ab hp;have HL:=ab hL;obtain⟨i0,hi,hz0,hz1,hz2⟩:=info_parts ca;obtain⟨pG,cG,rfl,-,-⟩:=hG;obtain⟨nG,enG⟩:∃nG,G.length=nG:=⟨_,rfl⟩
 rw[enG]at HG IN ⊢;rw[en]at hn ⊢;clear hp hL h en enG hok hG1 hG2
 go_enter Tryz.func45,Tryz.ntmps45
 go_wp2_with fail;go_loopw [5,6] (fun v5 v6 wr=>∃(i:Nat) (M:List Int),i<=n/\v6=.int .i64 (i:Int)/\Hid (M=(L.take i).filter (inF G K))/\M.length<=i/\Hid (wr.ownsRow w.heap.size 35 1 v5 M.length (aj M))/\Hid (Below w.heap.size w wr)) (fun _ v6 _=>n-(intOf v6).toNat)
 case atStart=>exact⟨0,[],by omega,rfl,ab rfl,by simp,ab (World.ownsRow_nil _ _ _ _),ab (Below.refl _ _)⟩
 case round =>
  obtain⟨i,M,hin,rfl,hM,hMl,hO,hB⟩:=hrel;obtain⟨p7,c7,rfl,-⟩:=aA hO.out;by_cases hlt:i<n
  · have hlt':(i:Int)<(n:Int):=by omega
    obtain⟨g,rfl,x1⟩:=HP.out i (by rw[EN.out];exact hlt);have hiL:i<L.length:=by rw[EN.out];exact hlt
    replace x1:=aa hB.out x1;obtain⟨hwx,hRx⟩:=HL.out _ (List.getElem_mem hiL);have CE:=ab fun w=>cV L[i] hwx w;have ok:=cI hwx;have pt4:=ce ok;have PO:=ab fun w=>iT (an L[i]) (ao L[i]) (wR L[i]) K hK (by rw[hRx];exact hr) ⟨by omega,by omega⟩ ⟨by omega,by omega⟩ w;have SN:Hid ((L.take (i+1)).filter (inF G K)=M++(if inF G K L[i]then [L[i]]else [])):=ab (by
     rw[List.take_succ_eq_append_getElem hiL,List.filter_append,←hM.out];congr 1;rw[List.filter_cons]
     split <;>simp)
    have IN1:=ab (IN.out (poX K (an L[i]) (ao L[i])) (poY K (an L[i]) (ao L[i])));have hc:Hid (inQ G (poX K (an L[i]) (ao L[i])) (poY K (an L[i]) (ao L[i]))=inF G K L[i]):=ab rfl;rw[hc.out]at IN1;clear hc;generalize poX K (an L[i]) (ao L[i])=X at *;generalize poY K (an L[i]) (ao L[i])=Y at *;clear hwx hRx ok pt4 hM IN;generalize an L[i]=a at *;generalize ao L[i]=b at *;generalize wR L[i]=rr at *;generalize inF G K L[i]=cb at *;generalize L[i]=x at *;go_wp2_with fail;refine(CE.out _).mono ?_;rintro e w1 ⟨rfl,b1⟩;have O1:=ab (ai b1 hO.out);have B1:=ab (hB.out.trans (b1.mono hB.out.size));replace x1:=aa b1 x1;have hal:=ag w1 (.cells #[.int .i64 rr,.int .i64 a,.int .i64 b] 39);have O2:=ab (ai hal O1.out);have B2:=ab (B1.out.trans (hal.mono B1.out.size));replace x1:=aa hal x1;clear CE b1 O1 B1 hO hB hal;go_wp2_with fail;generalize w1.alloc (.cells #[.int .i64 rr,.int .i64 a,.int .i64 b] 39)=w2 at *;refine(PO.out _).mono ?_;rintro e w3 ⟨rfl,b3⟩;have O3:=ab (ai b3 O2.out);have B3:=ab (B2.out.trans (b3.mono B2.out.size));replace x1:=aa b3 x1;clear PO b3 O2 B2;go_wp2_with fail;refine(IN1.out _ (HG.out.keep B3.out)).mono ?_;rintro e w4 ⟨rfl,b4⟩;have O4:=ab (ai b4 O3.out);have B4:=ab (B3.out.trans (b4.mono B3.out.size));replace x1:=aa b4 x1;clear IN1 b4 O3 B3;cases cb
    · have SN2:Hid (M=(L.take (i+1)).filter (inF G K)):=ab (by rw[SN.out];simp);clear SN;go_wp2_with fail;go_roundw
      case rel=>exact⟨i+1,M,by omega,by go_num,SN2,by omega,O4,B4⟩
      case measure=>simp[intOf];omega
    · have SN2:Hid (M++[x]=(L.take (i+1)).filter (inF G K)):=ab (by rw[SN.out];rfl);have hs4:=B4.out.size;clear SN;go_wp2_with (at_builtin;refine wpList_append_own _ rfl (.tmp 39) (.tmp 44) 22 rfl w.heap.size 35 i0 (.int .u64 0) 1 8 Tryz.underlying22 hi hz0 hz1 hz2 rfl (by decide) _ _ _ rfl (ai (ag _ _) O4.out) ⟨w4.heap.size,0,none⟩ 1 1 [.int .u64 x] rfl rfl (bf _ _ rfl _ _) (bK _ _) (by unfold maxLen;omega) (by omega) (by simp;omega) ?_)
      intro v' w5 hown hgrow _;have O5:Hid (w5.ownsRow w.heap.size 35 1 v' (M++[x]).length (aj (M++[x]))):=ab (by
       have e1:(M++[x]).length=M.length+1:=by simp
       have e2:aj (M++[x])=aj M++[.int .u64 x]:=by simp[aj]
       rw[e1,e2];exact hown)
      have B5:=ab ((B4.out.trans ((ag w4 (.cells #[.int .u64 x] 35)).mono hs4)).grown hgrow (by simp;omega) (fun k hk=>aM O4.out k hk));clear hown hgrow;go_wp2;go_roundw
      case rel=>exact⟨i+1,M++[x],by omega,by go_num,SN2,by simp;omega,O5,B5⟩
      case measure=>simp[intOf];omega
  · obtain rfl:i=n:=by omega
    have hlt':decide ((i:Int)<(i:Int))=false:=by simp
    have e:M=L.filter (inF G K):=by rw[hM.out,List.take_of_length_le (by rw[EN.out];omega)]
    subst e;clear hM hlt;go_wp2_with fail;go_ret;exact⟨⟨_,rfl,hO.out⟩,hB.out⟩
end Go.Proofs.YtbnlhdnnenahfaaGreatDoor
