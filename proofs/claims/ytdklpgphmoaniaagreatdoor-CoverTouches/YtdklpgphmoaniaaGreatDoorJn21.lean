/-
  What the document's own BoxMay and Centres tell; in whatever memory.
-/
import Derived.Test.YtdklpgphmoaniaaGreatDoorRTouch
namespace Go.Proofs.YtdklpgphmoaniaaGreatDoor
open Go.RowKit
def MayT (l1 l2 u1 u2 r t:Int):Prop :=
 ((r < 0∨12 < r)∧t=1)∨((0≤r∧r≤12)∧¬ (InW l1 l2∧InW u1 u2)∧t=4)∨((0≤r∧r≤12)∧(InW l1 l2∧InW u1 u2)∧(u1 < l1∨u2 < l2)∧t=1)∨((0≤r∧r≤12)∧(InW l1 l2∧InW u1 u2)∧(l1≤u1∧l2≤u2)∧t=0)
set_option maxHeartbeats 8000000 in
set_option maxRecDepth 20000 in
theorem rmay_core (l1 l2 u1 u2 r t:Int) (p q:Bool)
 (h:(r < 0∧t=1)∨(decide (r < 0)=false∧12 < r∧t=1)∨(decide (r < 0)=false∧decide (12 < r)=false∧((p=false∧t=4)∨(p=true∧q=false∧t=4)∨(p=true∧q=true∧u1 < l1∧t=1)∨(p=true∧q=true∧decide (u1 < l1)=false∧u2 < l2∧t=1)∨(p=true∧q=true∧decide (u1 < l1)=false∧decide (u2 < l2)=false∧t=0))))
 (W1:∀ w,Calls Tryz.prog 11 #[.int .i64 l1,.int .i64 l2] w fun e w'=>e=.returned (.bool p)∧w'=w)
 (W2:∀ w,Calls Tryz.prog 11 #[.int .i64 u1,.int .i64 u2] w fun e w'=>e=.returned (.bool q)∧w'=w) (w:World) :
 Calls Tryz.prog 24 #[.agg #[.int .i64 l1,.int .i64 l2],.agg #[.int .i64 u1,.int .i64 u2],.int .i64 r] w fun e w'=>e=.returned (.int .i64 t)∧Below w.heap.size w w':=by
 replace W1:Hid _:=W1
 replace W2:Hid _:=W2
 rcases h with ⟨h1,rfl⟩ | ⟨h1,h2,rfl⟩ | ⟨h1,h2,(⟨rfl,rfl⟩ | ⟨rfl,rfl,rfl⟩ | ⟨rfl,rfl,h3,rfl⟩ | ⟨rfl,rfl,h3,h4,rfl⟩ | ⟨rfl,rfl,h3,h4,rfl⟩)⟩
 · go_enter Tryz.func24,Tryz.ntmps24
   go_wp2_with fail
   go_ret
   exact ⟨rfl,by go_grown⟩
 · go_enter Tryz.func24,Tryz.ntmps24
   go_wp2_with fail
   go_ret
   exact ⟨rfl,by go_grown⟩
 · go_enter Tryz.func24,Tryz.ntmps24
   go_wp2_with fail
   refine (W1.out _).mono ?_
   rintro e w' ⟨rfl,rfl⟩
   go_wp2_with fail
   go_ret
   exact ⟨rfl,by go_grown⟩
 all_goals
  go_enter Tryz.func24,Tryz.ntmps24
  go_wp2_with fail
  refine (W1.out _).mono ?_
  rintro e w' ⟨rfl,rfl⟩
  go_wp2_with fail
  refine (W2.out _).mono ?_
  rintro e w'' ⟨rfl,rfl⟩
  go_wp2_with fail
  go_ret
  exact ⟨rfl,by go_grown⟩
theorem r_may (l1 l2 u1 u2 r t:Int) (h:MayT l1 l2 u1 u2 r t) (w:World) :
 Calls Tryz.prog 24 #[.agg #[.int .i64 l1,.int .i64 l2],.agg #[.int .i64 u1,.int .i64 u2],.int .i64 r] w fun e w'=>e=.returned (.int .i64 t)∧Below w.heap.size w w':=by
 refine rmay_core l1 l2 u1 u2 r t (inWB l1 l2) (inWB u1 u2) ?_ (fun w=>rworld_any l1 l2 w) (fun w=>rworld_any u1 u2 w) w
 unfold MayT at h
 have e1:inWB l1 l2=true↔InW l1 l2:=⟨inWB_yes,inWB_mk⟩
 have e2:inWB u1 u2=true↔InW u1 u2:=⟨inWB_yes,inWB_mk⟩
 cases p:inWB l1 l2 <;>cases q:inWB u1 u2 <;>rw [p] at e1 <;>rw [q] at e2 <;>simp only [Bool.false_eq_true,false_iff,true_iff] at e1 e2
 all_goals
  simp only [decide_eq_false_iff_not,true_and,false_and,or_false,false_or,Bool.false_eq_true,Bool.true_eq_false]
  simp only [e1,e2,and_self,and_true,true_and,and_false,false_and,not_false_eq_true,not_true_eq_false,or_false,false_or] at h
  omega
def inCB (K:Nat) (l1 l2 u1 u2 x:Int):Bool:=decide (l1≤poX K (cellA x) (cellB x)∧poX K (cellA x) (cellB x)≤u1∧l2≤poY K (cellA x) (cellB x)∧poY K (cellA x) (cellB x)≤u2)
theorem inCB_ways (X Y l1 l2 u1 u2:Int):(decide (l1≤X)=false∧¬ (l1≤X∧X≤u1∧l2≤Y∧Y≤u2))∨(l1≤X∧decide (X≤u1)=false∧¬ (l1≤X∧X≤u1∧l2≤Y∧Y≤u2))∨(l1≤X∧X≤u1∧decide (l2≤Y)=false∧¬ (l1≤X∧X≤u1∧l2≤Y∧Y≤u2))∨(l1≤X∧X≤u1∧l2≤Y∧decide (Y≤u2)=false∧¬ (l1≤X∧X≤u1∧l2≤Y∧Y≤u2))∨(l1≤X∧X≤u1∧l2≤Y∧Y≤u2):=by
 simp only [decide_eq_false_iff_not]
 omega
set_option maxHeartbeats 8000000 in
set_option maxRecDepth 20000 in
theorem r_centres (s:Value) (L:List Int) (r K:Nat) (hK:K≤12) (hr:12 - (r:Int)=(K:Int)) (hL:∀ x∈L,Whole x∧wR x=(r:Int)) (hn:L.length≤40000) (l1 l2 u1 u2:Int) (w:World) (h:RowAt 0 w s L) :
 Calls Tryz.prog 27 #[s,.agg #[.int .i64 l1,.int .i64 l2],.agg #[.int .i64 u1,.int .i64 u2]] w fun e w'=>(∃ v,e=.returned v∧w'.ownsRow w.heap.size 31 1 v (L.filter (inCB K l1 l2 u1 u2)).length (vals (L.filter (inCB K l1 l2 u1 u2))))∧Below w.heap.size w w':=by
 obtain ⟨p,cap,rfl,hp⟩:=h.form
 obtain ⟨n,en⟩:∃ n,L.length=n:=⟨_,rfl⟩
 have EN:=hidd en
 have HP:=hidd hp
 have HL:=hidd hL
 obtain ⟨i0,hi,hz0,hz1,hz2⟩:=info_parts infoU64
 have S0:Hid (Row12 w.heap.size 2 (prT l1 l2) ((w.alloc (.cells #[.int .i64 l1,.int .i64 l2] 38)).alloc (.cells #[.int .i64 u1,.int .i64 u2] 38))∧Row12 (w.heap.size+1) 2 (prT u1 u2) ((w.alloc (.cells #[.int .i64 l1,.int .i64 l2] 38)).alloc (.cells #[.int .i64 u1,.int .i64 u2] 38))):=hidd ⟨fun o ho=>by
  obtain rfl | rfl:o=0∨o=1:=by omega
  · unfold prT;go_simp
  · unfold prT;go_simp,fun o ho=>by
  obtain rfl | rfl:o=0∨o=1:=by omega
  · unfold prT;go_simp
  · unfold prT;go_simp⟩
 have B0:=hidd (belowT (allocB w (.cells #[.int .i64 l1,.int .i64 l2] 38)) (allocB _ (.cells #[.int .i64 u1,.int .i64 u2] 38)))
 have H0:w.heap.size+2≤((w.alloc (.cells #[.int .i64 l1,.int .i64 l2] 38)).alloc (.cells #[.int .i64 u1,.int .i64 u2] 38)).heap.size:=by simp
 rw [en] at hn ⊢
 clear hp hL h en
 go_enter Tryz.func27,Tryz.ntmps27
 go_wp2_with fail
 generalize (w.alloc (.cells #[.int .i64 l1,.int .i64 l2] 38)).alloc (.cells #[.int .i64 u1,.int .i64 u2] 38)=w0 at *
 go_loopw [7,8] (fun v7 v8 wr=>∃ (i:Nat) (M:List Int),i≤n∧v8=.int .i64 (i:Int)∧Hid (M=(L.take i).filter (inCB K l1 l2 u1 u2))∧M.length≤i∧Hid (wr.ownsRow w0.heap.size 31 1 v7 M.length (vals M))∧Hid (Below w0.heap.size w0 wr)) (fun _ v8 _=>n - (intOf v8).toNat)
 case atStart=>exact ⟨0,[],by omega,rfl,hidd rfl,by simp,hidd (World.ownsRow_nil _ _ _ _),hidd (Below.refl _ _)⟩
 case round =>
  obtain ⟨i,M,hin,rfl,hM,hMl,hO,hB⟩:=hrel
  obtain ⟨p7,c7,rfl,-⟩:=own_slice hO.out
  by_cases hlt:i < n
  · have hlt':(i:Int) < (n:Int):=by omega
    obtain ⟨g,rfl,x1⟩:=HP.out i (by rw [EN.out];exact hlt)
    have hiL:i < L.length:=by rw [EN.out];exact hlt
    replace x1:=keepCell (belowT B0.out hB.out) x1
    obtain ⟨hwx,hRx⟩:=HL.out _ (List.getElem_mem hiL)
    have CE:=hidd fun w=>rwcell_yes L[i] hwx w
    have ok:=cell_ok hwx
    have pt4:=ok4_part ok
    have PO:=hidd fun w=>rcentre_yes (cellA L[i]) (cellB L[i]) (wR L[i]) K hK (by rw [hRx];exact hr) ⟨by omega,by omega⟩ ⟨by omega,by omega⟩ w
    have SN:Hid ((L.take (i+1)).filter (inCB K l1 l2 u1 u2)=M++(if inCB K l1 l2 u1 u2 L[i] then [L[i]] else [])):=hidd (by
     rw [List.take_succ_eq_append_getElem hiL,List.filter_append,← hM.out]
     congr 1
     rw [List.filter_cons]
     split <;>simp)
    have hc:Hid (inCB K l1 l2 u1 u2 L[i]=decide (l1≤poX K (cellA L[i]) (cellB L[i])∧poX K (cellA L[i]) (cellB L[i])≤u1∧l2≤poY K (cellA L[i]) (cellB L[i])∧poY K (cellA L[i]) (cellB L[i])≤u2)):=hidd rfl
    generalize poX K (cellA L[i]) (cellB L[i])=X at *
    generalize poY K (cellA L[i]) (cellB L[i])=Y at *
    have hw:=inCB_ways X Y l1 l2 u1 u2
    clear hwx hRx ok pt4 hM
    generalize cellA L[i]=a at *
    generalize cellB L[i]=b at *
    generalize wR L[i]=rr at *
    generalize inCB K l1 l2 u1 u2 L[i]=cb at *
    generalize L[i]=x at *
    go_wp2_with fail
    refine (CE.out _).mono ?_
    rintro e w1 ⟨rfl,b1⟩
    have O1:=hidd (own_keep b1 hO.out)
    have B1:=hidd (hB.out.trans (b1.mono hB.out.size))
    replace x1:=keepCell b1 x1
    have hal:=allocB w1 (.cells #[.int .i64 rr,.int .i64 a,.int .i64 b] 25)
    have O2:=hidd (own_keep hal O1.out)
    have B2:=hidd (B1.out.trans (hal.mono B1.out.size))
    replace x1:=keepCell hal x1
    clear CE b1 O1 B1 hO hB hal
    go_wp2_with fail
    generalize w1.alloc (.cells #[.int .i64 rr,.int .i64 a,.int .i64 b] 25)=w2 at *
    refine (PO.out _).mono ?_
    rintro e w3 ⟨rfl,b3⟩
    have O3:=hidd (own_keep b3 O2.out)
    have B3:=hidd (B2.out.trans (b3.mono B2.out.size))
    replace x1:=keepCell b3 x1
    obtain ⟨hL3,hU3⟩:=S0.out
    have y0:=keepCell B3.out (hL3 0 (by omega))
    have y1:=keepCell B3.out (hL3 1 (by omega))
    have z0:=keepCell B3.out (hU3 0 (by omega))
    have z1:=keepCell B3.out (hU3 1 (by omega))
    simp only [prT] at y0 y1 z0 z1
    clear PO b3 O2 B2 hL3 hU3
    rcases hw with ⟨h1,hno⟩ | ⟨h1,h2,hno⟩ | ⟨h1,h2,h3,hno⟩ | ⟨h1,h2,h3,h4,hno⟩ | ⟨h1,h2,h3,h4⟩
    rotate_left 4
    · have hcT:cb=true:=by rw [hc.out];exact decide_eq_true ⟨h1,h2,h3,h4⟩
      have SN2:Hid (M++[x]=(L.take (i+1)).filter (inCB K l1 l2 u1 u2)):=hidd (by rw [SN.out,hcT];rfl)
      have hs3:=B3.out.size
      clear hc SN hcT
      go_wp2_with (at_builtin;refine wpList_append_own _ rfl (.tmp 59) (.tmp 64) 34 rfl w0.heap.size 31 i0 (.int .u64 0) 1 8 Tryz.underlying34 hi hz0 hz1 hz2 rfl (by decide) _ _ _ rfl (own_keep (allocB _ _) O3.out) ⟨w3.heap.size,0,none⟩ 1 1 [.int .u64 x] rfl rfl (one_lies _ _ rfl _ _) (one_int _ _) (by unfold maxLen;omega) (by omega) (by simp;omega) ?_)
      intro v' w5 hown hgrow _
      have O5:Hid (w5.ownsRow w0.heap.size 31 1 v' (M++[x]).length (vals (M++[x]))):=hidd (by
       have e1:(M++[x]).length=M.length+1:=by simp
       have e2:vals (M++[x])=vals M++[.int .u64 x]:=by simp [vals]
       rw [e1,e2];exact hown)
      have B5:=hidd ((B3.out.trans ((allocB w3 (.cells #[.int .u64 x] 31)).mono hs3)).grown hgrow (by simp;omega) (fun k hk=>own_block O3.out k hk))
      clear hown hgrow
      go_wp2
      go_roundw
      case rel=>exact ⟨i+1,M++[x],by omega,by go_num,SN2,by simp;omega,O5,B5⟩
      case measure=>simp [intOf];omega
    all_goals
     have hcF:cb=false:=by rw [hc.out];exact decide_eq_false hno
     have SN2:Hid (M=(L.take (i+1)).filter (inCB K l1 l2 u1 u2)):=hidd (by rw [SN.out,hcF];simp)
     clear hc SN hcF hno
     go_wp2_with fail
     go_roundw
     case rel=>exact ⟨i+1,M,by omega,by go_num,SN2,by omega,O3,B3⟩
     case measure=>simp [intOf];omega
  · obtain rfl:i=n:=by omega
    have hlt':decide ((i:Int) < (i:Int))=false:=by simp
    have e:M=L.filter (inCB K l1 l2 u1 u2):=by rw [hM.out,List.take_of_length_le (by rw [EN.out];omega)]
    subst e
    have hO2:=hidd (own_mono hO.out (show w.heap.size≤w0.heap.size by omega))
    clear hM hlt
    go_wp2_with fail
    go_ret
    exact ⟨⟨_,rfl,hO2.out⟩,B0.out.trans (hB.out.mono (by omega))⟩
end Go.Proofs.YtdklpgphmoaniaaGreatDoor
namespace Go.Proofs.YtdklpgphmoaniaaGreatDoor
theorem tou_ok {K:Nat} {r l1 l2 u1 u2 a b:Int} (hK:K≤12) (hr:12 - r=(K:Int)) (h1:0≤l1) (h2:0≤l2) (h3:u1 < 1073741824) (h4:u2 < 1073741824) (h:Tou K l1 l2 u1 u2 a b):Ok4 r a b:=by
 obtain ⟨x,y,hx,hy,hn⟩:=tou_near hK h
 obtain ⟨p,q,hpq⟩:=nearest_some (d:=dvK K) (dvK_box hK).1 (nuA K x y) (nuB K x y)
 have hs:=hn p q hpq.1
 have hM:Mid (12 - K) p q:=⟨by omega,near_norm0 hK ⟨by omega,by omega,by omega,by omega⟩ hpq⟩
 have:=hM.ok (p:=a - p) (q:=b - q) (by rw [stp_back];omega)
 rw [show p+(a - p)=a by omega,show q+(b - q)=b by omega] at this
 rwa [show ((12 - K:Nat):Int)=r by omega] at this
theorem clique:∀ {L:List (Int × Int)},L.Nodup→(∀ p∈L,∀ q∈L,stp (p.1 - q.1) (p.2 - q.2)≤1)→L.length≤3
 | [],_,_=>by simp
 | [_],_,_=>by simp
 | [_,_],_,_=>by simp
 | [_,_,_],_,_=>by simp
 | p :: q :: s :: t :: L,hn,h=>by
  exfalso
  simp only [List.nodup_cons,List.mem_cons,not_or] at hn
  obtain ⟨⟨n1,n2,n3,-⟩,⟨n4,n5,-⟩,⟨n6,-⟩,-⟩:=hn
  have ne:∀ {p q:Int × Int},¬ p=q→p.1≠q.1∨p.2≠q.2:=fun {p q} h=>by
   by_cases c:p.1=q.1
   · exact .inr fun d=>h (Prod.ext c d)
   · exact .inl c
  have m1:=ne n1
  have m2:=ne n2
  have m3:=ne n3
  have m4:=ne n4
  have m5:=ne n5
  have m6:=ne n6
  have g:∀ a b:Int × Int,a∈p :: q :: s :: t :: L→b∈p :: q :: s :: t :: L→(-1≤a.1 - b.1∧a.1 - b.1≤1)∧(-1≤a.2 - b.2∧a.2 - b.2≤1)∧(-1≤a.1 - b.1+(a.2 - b.2)∧a.1 - b.1+(a.2 - b.2)≤1):=fun a b ha hb=>by
   have h1:=h a ha b hb
   have h2:=stp_ge (a.1 - b.1) (a.2 - b.2)
   omega
  have g1:=g p q (by simp) (by simp)
  have g2:=g p s (by simp) (by simp)
  have g3:=g p t (by simp) (by simp)
  have g4:=g q s (by simp) (by simp)
  have g5:=g q t (by simp) (by simp)
  have g6:=g s t (by simp) (by simp)
  clear g h n1 n2 n3 n4 n5 n6 ne
  obtain ⟨p1,p2⟩:=p
  obtain ⟨q1,q2⟩:=q
  obtain ⟨s1,s2⟩:=s
  obtain ⟨t1,t2⟩:=t
  simp only at *
  obtain ⟨a,ea⟩:∃ a,p1 - q1=a:=⟨_,rfl⟩
  obtain ⟨b,eb⟩:∃ b,p2 - q2=b:=⟨_,rfl⟩
  have hab:(a=1∧b=0)∨(a=0∧b=1)∨(a= -1∧b=1)∨(a= -1∧b=0)∨(a=0∧b= -1)∨(a=1∧b= -1):=by omega
  rcases hab with ⟨rfl,rfl⟩ | ⟨rfl,rfl⟩ | ⟨rfl,rfl⟩ | ⟨rfl,rfl⟩ | ⟨rfl,rfl⟩ | ⟨rfl,rfl⟩ <;>omega
def szK:Nat→Int
 | 0=>52
 | k+1=>szK k*8 / 3
def fXp (K:Nat):Int:=45*(2*cjA K+cjB K)
def fXq (K:Nat):Int:= -26*(2*cjA K+cjB K)+52*(cjA K - cjB K)
def fYp (K:Nat):Int:=45*(cjA K+2*cjB K)
def fYq (K:Nat):Int:= -26*(cjA K+2*cjB K)+52*(2*cjA K+cjB K)
def fZp (K:Nat):Int:=45*(cjA K - cjB K)
def fZq (K:Nat):Int:= -26*(cjA K - cjB K) - 52*(cjA K+2*cjB K)
theorem nu_forms (K:Nat) (x y:Int):2*nuA K x y+nuB K x y=x*fXp K+y*fXq K∧nuA K x y+2*nuB K x y=x*fYp K+y*fYq K∧nuA K x y - nuB K x y=x*fZp K+y*fZq K:=by
 unfold nuA nuB fXp fXq fYp fYq fZp fZq
 refine ⟨?_,?_,?_⟩ <;>grind
theorem sz_fin:∀ i:Fin 13,(decide (8*szK i.val*(max (fXp i.val) (-fXp i.val)+max (fXq i.val) (-fXq i.val))≤84*dvK i.val) && decide (8*szK i.val*(max (fYp i.val) (-fYp i.val)+max (fYq i.val) (-fYq i.val))≤84*dvK i.val) && decide (8*szK i.val*(max (fZp i.val) (-fZp i.val)+max (fZq i.val) (-fZq i.val))≤84*dvK i.val) && decide (0≤szK i.val))=true:=by decide +kernel
theorem form_box {p q u v W F:Int} (hu: -W≤u∧u≤W) (hv: -W≤v∧v≤W) (h:W*(max p (-p)+max q (-q))≤F): -F≤u*p+v*q∧u*p+v*q≤F:=by
 obtain ⟨P,eP⟩:∃ P,max p (-p)=P:=⟨_,rfl⟩
 obtain ⟨Q,eQ⟩:∃ Q,max q (-q)=Q:=⟨_,rfl⟩
 rw [eP,eQ] at h
 have h1:=mul_in (a:=u) (b:=p) hu (show -P≤p∧p≤P by omega)
 have h2:=mul_in (a:=v) (b:=q) hv (show -Q≤q∧q≤Q by omega)
 have e:W*(P+Q)=W*P+W*Q:=by grind
 omega
theorem apart_steps {K:Nat} (hK:K≤12) {x y x' y' a b a' b' F W:Int} (h:HexAt (dvK K) (nuA K x y) (nuB K x y) a b) (h':HexAt (dvK K) (nuA K x' y') (nuB K x' y') a' b') (hx: -W≤x' - x∧x' - x≤W) (hy: -W≤y' - y∧y' - y≤W)
 (h0:W*(max (fXp K) (-fXp K)+max (fXq K) (-fXq K))≤F*dvK K) (h1:W*(max (fYp K) (-fYp K)+max (fYq K) (-fYq K))≤F*dvK K) (h2:W*(max (fZp K) (-fZp K)+max (fZq K) (-fZq K))≤F*dvK K) (hF:0≤F):3*stp (a' - a) (b' - b)≤2*F+4:=by
 have hd:=(dvK_box hK).1
 have k0:=form_box hx hy h0
 have k1:=form_box hx hy h1
 have k2:=form_box hx hy h2
 have e:=nu_forms K (x' - x) (y' - y)
 have eA:nuA K (x' - x) (y' - y)=nuA K x' y' - nuA K x y:=by unfold nuA;grind
 have eB:nuB K (x' - x) (y' - y)=nuB K x' y' - nuB K x y:=by unfold nuB;grind
 rw [eA,eB] at e
 rw [← e.1] at k0
 rw [← e.2.1] at k1
 rw [← e.2.2] at k2
 clear e eA eB h0 h1 h2
 unfold HexAt Hex at h h'
 obtain ⟨p,ep⟩:∃ p,a' - a=p:=⟨_,rfl⟩
 obtain ⟨q,eq⟩:∃ q,b' - b=q:=⟨_,rfl⟩
 rw [ep,eq]
 have e1:a'*dvK K=a*dvK K+p*dvK K:=by rw [← ep];grind
 have e2:b'*dvK K=b*dvK K+q*dvK K:=by rw [← eq];grind
 rw [e1,e2] at h'
 have key:∀ m:Int,-(F*dvK K+2*dvK K)≤m*dvK K→m*dvK K≤F*dvK K+2*dvK K→-(F+2)≤m∧m≤F+2:=fun m h1 h2=>by
  have e3:(F+3)*dvK K=F*dvK K+3*dvK K:=by grind
  constructor
  · by_cases c: -(F+2)≤m
    · exact c
    · have:=Int.mul_le_mul_of_nonneg_right (show m≤-(F+3) by omega) (show 0≤dvK K by omega)
      rw [Int.neg_mul] at this
      omega
  · by_cases c:m≤F+2
    · exact c
    · have:=Int.mul_le_mul_of_nonneg_right (show F+3≤m by omega) (show 0≤dvK K by omega)
      omega
 have f0:(2*p+q)*dvK K=2*(p*dvK K)+q*dvK K:=by grind
 have f1:(p+2*q)*dvK K=p*dvK K+2*(q*dvK K):=by grind
 have f2:(p - q)*dvK K=p*dvK K - q*dvK K:=by grind
 have g0:=key (2*p+q) (by omega) (by omega)
 have g1:=key (p+2*q) (by omega) (by omega)
 have g2:=key (p - q) (by omega) (by omega)
 have hs:=stp_le (a:=p) (b:=q) (n:=(2*F+4) / 3) (by omega) (by omega) (by omega) (by omega)
 omega
theorem box_steps {K:Nat} (hK:K≤12) {l1 l2 u1 u2 a b sa sb:Int} (hx:u1 - l1≤8*szK K) (hy:u2 - l2≤8*szK K) (hs:HexAt (dvK K) (nuA K l1 l2) (nuB K l1 l2) sa sb) (h:Tou K l1 l2 u1 u2 a b):stp (a - sa) (b - sb)≤58:=by
 obtain ⟨x,y,hx',hy',hn⟩:=tou_near hK h
 obtain ⟨p,q,hpq⟩:=nearest_some (d:=dvK K) (dvK_box hK).1 (nuA K x y) (nuB K x y)
 have h1:=hn p q hpq.1
 have hf:=sz_fin ⟨K,by omega⟩
 simp only [Bool.and_eq_true,decide_eq_true_eq] at hf
 have h2:=apart_steps hK hs hpq.1 (W:=8*szK K) (F:=84) (by omega) (by omega) hf.1.1.1 hf.1.1.2 hf.1.2 (by omega)
 have h3:=stp_sub a b p q sa sb
 rw [stp_back a b p q] at h3
 omega
theorem nodup_len {α:Type} [DecidableEq α]:∀ {K L:List α},K.Nodup→(∀ x∈K,x∈L)→K.length≤L.length
 | [],_,_,_=>Nat.zero_le _
 | x :: K,L,hn,h=>by
  have hn':=List.nodup_cons.1 hn
  have hx:=h x (List.mem_cons_self ..)
  have ih:=nodup_len (L:=L.erase x) hn'.2 fun y hy=>(List.mem_erase_of_ne (fun e=>hn'.1 (by rw [← e];exact hy))).2 (h y (List.mem_cons_of_mem _ hy))
  have hl:=List.length_erase_of_mem hx
  have hp:=List.length_pos_of_mem hx
  rw [List.length_cons]
  omega
theorem few_near {N:Nat} {sa sb:Int} {L:List (Int × Int)} (hn:L.Nodup) (h:∀ p∈L,stp (p.1 - sa) (p.2 - sb)≤N):L.length≤3*N*(N+1)+1:=by
 have hnd:(L.map fun p=>(p.1 - sa,p.2 - sb)).Nodup:=by
  refine (List.pairwise_map).2 (hn.imp fun {a b} hne he=>hne ?_)
  have h1:=congrArg Prod.fst he
  have h2:=congrArg Prod.snd he
  dsimp only at h1 h2
  exact Prod.ext (by omega) (by omega)
 have hs:∀ x∈(L.map fun p=>(p.1 - sa,p.2 - sb)),x∈diskP (N+1):=fun x hx=>by
  obtain ⟨p,hp,rfl⟩:=List.mem_map.1 hx
  have:=h p hp
  exact mem_diskP.2 (by dsimp only;omega)
 have:=nodup_len hnd hs
 rwa [List.length_map,diskP_len] at this
def TW (K:Nat) (l1 l2 u1 u2 x:Int) (r:Nat):Prop:=Whole x∧wR x=(r:Int)∧Tou K l1 l2 u1 u2 (cellA x) (cellB x)
theorem tw_mk {K:Nat} {l1 l2 u1 u2 a b:Int} {r:Nat} (h:Ok4 (r:Int) a b) (ht:Tou K l1 l2 u1 u2 a b):TW K l1 l2 u1 u2 (wordOf r a b) r:=by
 have hp:=word_parts h
 have hc:=cell_word h
 refine ⟨hp.1,hp.2.1,?_⟩
 rw [hc.1,hc.2]
 exact ht
theorem bfs_all {K r:Nat} (hK:K≤12) (hr:12 - (r:Int)=(K:Int)) {l1 l2 u1 u2 sa sb:Int} (h1:0≤l1) (h2:0≤l2) (h3:u1 < 1073741824) (h4:u2 < 1073741824) (h5:l1≤u1) (h6:l2≤u2) (hs:HexAt (dvK K) (nuA K l1 l2) (nuB K l1 l2) sa sb) {F:List Int}
 (hF:∀ x∈F,TW K l1 l2 u1 u2 x r) (h0:wordOf r sa sb∈F) (hcl:∀ x∈F,∀ p q,stp p q=1→Ok4 (r:Int) (cellA x+p) (cellB x+q)→Tou K l1 l2 u1 u2 (cellA x+p) (cellB x+q)→wordOf r (cellA x+p) (cellB x+q)∈F) (x:Int):x∈F↔TW K l1 l2 u1 u2 x r:=by
 refine ⟨hF x,fun ⟨hw,hR,ht⟩=>?_⟩
 have key:=tou_ind hK ⟨Int.le_refl l1,h5⟩ ⟨Int.le_refl l2,h6⟩ hs (fun a b=>wordOf r a b∈F) h0 (fun a b a' b' hst ht' hp ht=>by
  have ho:=tou_ok hK hr h1 h2 h3 h4 ht
  have ho':=tou_ok hK hr h1 h2 h3 h4 ht'
  have hc:=cell_word ho'
  have:=hcl _ hp (a - a') (b - b') hst (by rw [hc.1,hc.2,show a'+(a - a')=a by omega,show b'+(b - b')=b by omega];exact ho) (by rw [hc.1,hc.2,show a'+(a - a')=a by omega,show b'+(b - b')=b by omega];exact ht)
  rwa [hc.1,hc.2,show a'+(a - a')=a by omega,show b'+(b - b')=b by omega] at this) (cellA x) (cellB x) ht
 have e:=word_cell hw
 rw [hR,Int.toNat_natCast] at e
 rwa [e] at key
theorem hex_two {d s t s' t':Int} (h:Hex d s t) (h':Hex d s' t'):3*((s' - s)*(s' - s)+(s' - s)*(t' - t)+(t' - t)*(t' - t))≤(2*d)*(2*d):=by
 unfold Hex at h h'
 obtain ⟨p,ep⟩:∃ p,2*(s' - s)+(t' - t)=p:=⟨_,rfl⟩
 obtain ⟨q,eq⟩:∃ q,(s' - s)+2*(t' - t)=q:=⟨_,rfl⟩
 have e:3*((s' - s)*(s' - s)+(s' - s)*(t' - t)+(t' - t)*(t' - t))=p*p - p*q+q*q:=by rw [← ep,← eq];grind
 rw [e]
 have hp: -(2*d)≤p∧p≤2*d:=by omega
 have hq: -(2*d)≤q∧q≤2*d:=by omega
 have hpq: -(2*d)≤p - q∧p - q≤2*d:=by omega
 have sq:∀ m:Int,-(2*d)≤m∧m≤2*d→m*m≤(2*d)*(2*d):=fun m hm=>by
  have h1:=Int.mul_nonneg (show 0≤2*d - m by omega) (show 0≤2*d+m by omega)
  have h2:(2*d - m)*(2*d+m)=(2*d)*(2*d) - m*m:=by grind
  omega
 have s1:=sq p hp
 have s2:=sq q hq
 have s3:=sq (p - q) hpq
 have e3:(p - q)*(p - q)=p*p - 2*(p*q)+q*q:=by grind
 rcases Int.lt_or_le p 0 with a | a <;>rcases Int.lt_or_le q 0 with b | b
 · rcases Int.lt_or_le p q with c | c
   · have:=Int.mul_nonneg (show 0≤-q by omega) (show 0≤q - p by omega)
     have e4: -q*(q - p)=p*q - q*q:=by grind
     omega
   · have:=Int.mul_nonneg (show 0≤-p by omega) (show 0≤p - q by omega)
     have e4: -p*(p - q)=p*q - p*p:=by grind
     omega
 · have:=Int.mul_nonneg (show 0≤-p by omega) b
   have e4: -p*q= -(p*q):=by grind
   omega
 · have:=Int.mul_nonneg a (show 0≤-q by omega)
   have e4:p*-q= -(p*q):=by grind
   omega
 · rcases Int.lt_or_le p q with c | c
   · have:=Int.mul_nonneg a (show 0≤q - p by omega)
     have e4:p*(q - p)=p*q - p*p:=by grind
     omega
   · have:=Int.mul_nonneg b (show 0≤p - q by omega)
     have e4:q*(p - q)=p*q - q*q:=by grind
     omega
theorem nu_norm (K:Nat) (x y:Int):nuA K x y*nuA K x y+nuA K x y*nuB K x y+nuB K x y*nuB K x y=(2025*(x*x)+2028*(y*y))*sev K:=by
 have e:sev K=cjA K*cjA K+cjA K*cjB K+cjB K*cjB K:=by unfold sev normE cjA cjB;grind
 rw [e]
 unfold nuA nuB
 grind
theorem one_cell {K:Nat} (hK:K≤12) {x y x' y' a b:Int} (h:HexAt (dvK K) (nuA K x y) (nuB K x y) a b) (h':HexAt (dvK K) (nuA K x' y') (nuB K x' y') a b) :
 2025*((x' - x)*(x' - x))+2028*((y' - y)*(y' - y))≤7300800*sev K:=by
 unfold HexAt at h h'
 have k:=hex_two h h'
 have e:=nu_norm K (x' - x) (y' - y)
 have eA:nuA K x' y' - a*dvK K - (nuA K x y - a*dvK K)=nuA K (x' - x) (y' - y):=by unfold nuA;grind
 have eB:nuB K x' y' - b*dvK K - (nuB K x y - b*dvK K)=nuB K (x' - x) (y' - y):=by unfold nuB;grind
 rw [eA,eB,e] at k
 obtain ⟨N,eN⟩:∃ N,2025*((x' - x)*(x' - x))+2028*((y' - y)*(y' - y))=N:=⟨_,rfl⟩
 rw [eN] at k ⊢
 have hs:1≤sev K:=by
  have:=(dvK_box hK).1
  unfold dvK at this
  omega
 have e2:(2*dvK K)*(2*dvK K)=3*((7300800*sev K)*sev K):=by unfold dvK;grind
 rw [e2] at k
 rcases Int.lt_or_le (7300800*sev K) N with c | c
 · have:=Int.mul_lt_mul_of_pos_right c (show 0 < sev K by omega)
   omega
 · exact c
def Many (K:Nat) (l1 l2 u1 u2:Int) (r n:Nat):Prop:=∃ L:List Int,L.Nodup∧(∀ x∈L,TW K l1 l2 u1 u2 x r)∧n < L.length
theorem Many.all {K r n:Nat} {l1 l2 u1 u2:Int} (h:Many K l1 l2 u1 u2 r n) {L:List Int} (hL:∀ x,x∈L↔TW K l1 l2 u1 u2 x r):n < L.length:=by
 obtain ⟨M,h1,h2,h3⟩:=h
 exact Nat.lt_of_lt_of_le h3 (nodup_len h1 fun x hx=>(hL x).2 (h2 x hx))
theorem word_point {K r:Nat} (hK:K≤12) (hr:12 - (r:Int)=(K:Int)) {l1 l2 u1 u2 x y:Int} (h1:0≤l1) (h2:0≤l2) (h3:u1 < 1073741824) (h4:u2 < 1073741824) (hx:l1≤x∧x≤u1) (hy:l2≤y∧y≤u2) :
 ∃ z,TW K l1 l2 u1 u2 z r∧HexAt (dvK K) (nuA K x y) (nuB K x y) (cellA z) (cellB z):=by
 obtain ⟨a,b,hn⟩:=nearest_some (d:=dvK K) (dvK_box hK).1 (nuA K x y) (nuB K x y)
 have ht:=tou_at hx hy hn.1
 have hok:=tou_ok hK hr h1 h2 h3 h4 ht
 have hw:=tw_mk hok ht
 refine ⟨_,hw,?_⟩
 have:=cell_word hok
 rw [this.1,this.2]
 exact hn.1
theorem many_points {K r:Nat} (hK:K≤12) (hr:12 - (r:Int)=(K:Int)) {l1 l2 u1 u2:Int} (h1:0≤l1) (h2:0≤l2) (h3:u1 < 1073741824) (h4:u2 < 1073741824) (f g:Nat→Int)
 (n:Nat) (hf:∀ i,i≤n→l1≤f i∧f i≤u1) (hg:∀ i,i≤n→l2≤g i∧g i≤u2) (ha:∀ i j,i < j→j≤n→7300800*sev K < 2025*((f j - f i)*(f j - f i))+2028*((g j - g i)*(g j - g i))) :
 Many K l1 l2 u1 u2 r n:=by
 have hz:∀ i,i≤n→∃ z,TW K l1 l2 u1 u2 z r∧HexAt (dvK K) (nuA K (f i) (g i)) (nuB K (f i) (g i)) (cellA z) (cellB z):=fun i hi=>word_point hK hr h1 h2 h3 h4 (hf i hi) (hg i hi)
 have step:∀ m,m≤n+1→∃ L:List Int,L.Nodup∧(∀ x∈L,TW K l1 l2 u1 u2 x r∧∃ i,i < m∧HexAt (dvK K) (nuA K (f i) (g i)) (nuB K (f i) (g i)) (cellA x) (cellB x))∧L.length=m:=by
  intro m
  induction m with
  | zero=>exact fun _=>⟨[],List.nodup_nil,fun x hx=>(by cases hx),rfl⟩
  | succ m ih =>
   intro hm
   obtain ⟨L,k1,k2,k3⟩:=ih (by omega)
   obtain ⟨z,z1,z2⟩:=hz m (by omega)
   refine ⟨z :: L,List.nodup_cons.2 ⟨fun hzL=>?_,k1⟩,fun x hx=>?_,by rw [List.length_cons,k3]⟩
   · obtain ⟨-,i,hi,hx⟩:=k2 z hzL
     have:=one_cell hK hx z2
     have:=ha i m hi (by omega)
     omega
   · rcases List.mem_cons.1 hx with e | e
     · subst e;exact ⟨z1,m,by omega,z2⟩
     · obtain ⟨q1,i,hi,q2⟩:=k2 x e
       exact ⟨q1,i,by omega,q2⟩
 obtain ⟨L,k1,k2,k3⟩:=step (n+1) (Nat.le_refl _)
 exact ⟨L,k1,fun x hx=>(k2 x hx).1,by omega⟩
theorem far_sq {a m:Int} (hm:0≤m) (h:a≤-m∨m≤a):m*m≤a*a:=by
 rcases h with h | h
 · have:=Int.mul_le_mul (show m≤-a by omega) (show m≤-a by omega) hm (by omega)
   have e: -a*-a=a*a:=by grind
   omega
 · exact Int.mul_le_mul h h hm (by omega)
theorem sq_pos (a:Int):0≤a*a:=by
 rcases Int.lt_or_le a 0 with h | h
 · have:=Int.mul_nonneg (show 0≤-a by omega) (show 0≤-a by omega)
   have e: -a*-a=a*a:=by grind
   omega
 · exact Int.mul_nonneg h h
theorem many_fine {K r:Nat} (hK:K≤3) (hr:12 - (r:Int)=(K:Int)) {x y:Int} (hx:0≤x∧x < 536870912) (hy:0≤y∧y < 536870912):Many K x y (x+268435456) (y+268435456) r 20000 :=
 many_points (by omega) hr hx.1 hy.1 (by omega) (by omega) (fun i=>x+13000*(i:Int)) (fun _=>y) 20000 (fun i hi=>by omega) (fun i hi=>by omega) fun i j hij hj=>by
  have h1:=far_sq (a:=x+13000*(j:Int) - (x+13000*(i:Int))) (m:=13000) (by omega) (by omega)
  rw [sev_pow (by omega)]
  have h2:(7:Int)^K≤343:=by
   rcases (show K=0∨K=1∨K=2∨K=3 by omega) with e | e | e | e <;>subst e <;>decide
  have h3:=sq_pos (y - y)
  omega
theorem many_world:Many 12 0 0 1073741823 1073741823 0 20000 :=
 many_points (by omega) (by omega) (by omega) (by omega) (by omega) (by omega) (fun i=>7600000*((i%142:Nat):Int)) (fun i=>7600000*((i / 142:Nat):Int)) 20000 (fun i hi=>by omega) (fun i hi=>by omega) fun i j hij hj=>by
  rw [sev_pow (by omega)]
  have e:(7:Int)^12=13841287201:=by decide
  rw [e]
  by_cases c:j%142=i%142
  · have h1:=far_sq (a:=7600000*((j / 142:Nat):Int) - 7600000*((i / 142:Nat):Int)) (m:=7600000) (by omega) (by omega)
    have h3:=sq_pos (7600000*((j%142:Nat):Int) - 7600000*((i%142:Nat):Int))
    omega
  · have h1:=far_sq (a:=7600000*((j%142:Nat):Int) - 7600000*((i%142:Nat):Int)) (m:=7600000) (by omega) (by omega)
    have h3:=sq_pos (7600000*((j / 142:Nat):Int) - 7600000*((i / 142:Nat):Int))
    omega
end Go.Proofs.YtdklpgphmoaniaaGreatDoor
