/-
  What the texts HDown, HUp, HPop say, so far as this seat's proofs need it.
-/
import Derived.Test.YtbnlhdnnenahfaaGreatDoorSBrkY
import Derived.Test.YtbnlhdnnenahfaaGreatDoorCV2Y
import Derived.Laws.AppendOwnNone
import Derived.Deep.AppendLies
set_option maxHeartbeats 8000000
set_option maxRecDepth 100000
namespace Go.Proofs.YtbnlhdnnenahfaaGreatDoor
open Go.RowKit
theorem wW (B:Nat)(w:World)(v:Value)(h:w.cell? ⟨B,0,none⟩=some v):(method 389 162 (.pointer (some ⟨B,0,none⟩)) "Len").run Tryz.prog w=.ok (249,v) w:=by
 have e:(method 389 162 (.pointer (some ⟨B,0,none⟩)) "Len").run Tryz.prog w=(Sem.load Mode.plain ⟨B,0,none⟩ (fun v=>Sem.pure (249,v))).run Tryz.prog w:=by kernel_rfl
 rw[e];simp[Sem.run,h]
theorem nD (B:Nat)(w:World)(v:Value)(h:w.cell? ⟨B,0,none⟩=some v):(method 389 162 (.pointer (some ⟨B,0,none⟩)) "Less").run Tryz.prog w=.ok (250,v) w:=by
 have e:(method 389 162 (.pointer (some ⟨B,0,none⟩)) "Less").run Tryz.prog w=(Sem.load Mode.plain ⟨B,0,none⟩ (fun v=>Sem.pure (250,v))).run Tryz.prog w:=by kernel_rfl
 rw[e];simp[Sem.run,h]
theorem ks (B:Nat)(w:World)(v:Value)(h:w.cell? ⟨B,0,none⟩=some v):(method 389 162 (.pointer (some ⟨B,0,none⟩)) "Swap").run Tryz.prog w=.ok (251,v) w:=by
 have e:(method 389 162 (.pointer (some ⟨B,0,none⟩)) "Swap").run Tryz.prog w=(Sem.load Mode.plain ⟨B,0,none⟩ (fun v=>Sem.pure (251,v))).run Tryz.prog w:=by kernel_rfl
 rw[e];simp[Sem.run,h]
theorem H6 (B:Nat)(w:World):(method 389 162 (.pointer (some ⟨B,0,none⟩)) "Push").run Tryz.prog w=.ok (253,.pointer (some ⟨B,0,none⟩)) w:=by kernel_rfl
theorem Jn (B:Nat)(w:World):(method 389 162 (.pointer (some ⟨B,0,none⟩)) "Pop").run Tryz.prog w=.ok (252,.pointer (some ⟨B,0,none⟩)) w:=by kernel_rfl
theorem wJ (p:Option Addr)(n c:Nat)(w:World):Calls Tryz.prog 249 #[.slice p n c] w fun e w'=>e=.returned (.int .i64 (n:Int))/\w'=w:=by
 go_enter Tryz.func249,Tryz.ntmps249
 go_wp2;go_ret;exact⟨rfl,rfl⟩
theorem Hi (g c n i j:Nat)(x y:Int)(w:World)(hi:i<n)(hj:j<n)(cx:w.cell? ⟨g,i,none⟩=some (.int .u64 x))(cy:w.cell? ⟨g,j,none⟩=some (.int .u64 y)) :
 Calls Tryz.prog 250 #[.slice (some ⟨g,0,none⟩) n c,.int .i64 i,.int .i64 j] w fun e w'=>e=.returned (.bool (Sort.ltInt y x))/\∃q,w'=w.drewN q:=by
 have i1:(i:Int)<(n:Int):=by omega
 have j1:(j:Int)<(n:Int):=by omega
 go_enter Tryz.func250,Tryz.ntmps250
 go_wp2_with fail
 go_quiet (fail)
 go_wp2;go_ret;exact⟨rfl,_,rfl⟩
theorem Hn (g c n i j:Nat)(d:Array Int)(w:World)(hn:d.size=n)(hH:Sort.Holds (Value.int .u64) w g 0 d)(hg:g<w.heap.size)(hi:i<n)(hj:j<n) :
 Calls Tryz.prog 251 #[.slice (some ⟨g,0,none⟩) n c,.int .i64 i,.int .i64 j] w fun e w'=>e=.returned (.tuple #[])/\St w g 0 d (Sort.swp d i j) w':=by
 have i1:(i:Int)<(n:Int):=by omega
 have j1:(j:Int)<(n:Int):=by omega
 obtain⟨G,hG,hc,hf⟩:=(St.refl hH).fam hH hg;rw[hn]at hc hf;have SW:=af ((St.refl hH).swap hH hg hG (j:=i) (k:=j) (by omega) (by omega) 0);obtain⟨y3,hy3⟩:=cell?_setCell_some (w:=w) (p:=⟨g,0+i,none⟩) (x:=.int .u64 (G j)) (q:=⟨g,0+j,none⟩) (hc j (by omega));simp only[Nat.zero_add]at hc hf hy3 SW;clear hG hH hn
 go_enter Tryz.func251,Tryz.ntmps251
 go_wp2_with fail
 go_region
 go_wp2_with fail
 go_end0
 exact⟨rfl,SW.out.1,SW.out.2.ahead 1⟩
theorem lE {w w':World}{g:Nat}{d0 d:Array Int}{p:Addr}{v:Value}(h:St w g 0 d0 d w')(hc:w.cell? p=some v)(hp:p.block≠g):w'.cell? p=some v:=by
 have hl:=World.block_lt_of_cell? _ _ hc;obtain⟨n,os,rfl⟩:=h.2;rw[World.cell?_of_block (w:=w) (a:=p) ?_]
 · exact hc
 · rw[Sort.heap_grow_old _ _ (by simp[Sort.putRow,Sort.mapBlock,Sort.ahead];exact hl)];show(w.heap.modify g _)[p.block]?=_
   rw[Array.getElem?_modify,if_neg (Ne.symm hp)]
theorem Gt {d:Array Int}{hi r:Nat}(h:hi<=2*r+1):Sort.siftDown Sort.ltInt hi 0 r d=d:=Sort.sd_end _ _ h
theorem JC {d:Array Int}{hi r:Nat}(h:2*r+2<hi)(h1:Sort.ltInt d[2*r+1]! d[2*r+2]! =true)(h2:Sort.ltInt d[r]! d[2*r+2]! =false):Sort.siftDown Sort.ltInt hi 0 r d=d:=by
 have:=Sort.sd_right_stop (lt:=Sort.ltInt) (hi:=hi) (F:=0) (root:=r) d h;simp only[Nat.zero_add]at this;exact this h1 h2
theorem JB {d:Array Int}{hi r:Nat}(h:2*r+2<hi)(h1:Sort.ltInt d[2*r+1]! d[2*r+2]! =true)(h2:Sort.ltInt d[r]! d[2*r+2]! =true):Sort.siftDown Sort.ltInt hi 0 r d=Sort.siftDown Sort.ltInt hi 0 (2*r+2) (Sort.swp d r (2*r+2)):=by
 have:=Sort.sd_right_go (lt:=Sort.ltInt) (hi:=hi) (F:=0) (root:=r) d h;simp only[Nat.zero_add]at this;exact this h1 h2
theorem Ej {d:Array Int}{hi r:Nat}(h:2*r+1<hi)(h1:2*r+2<hi->Sort.ltInt d[2*r+1]! d[2*r+2]! =false)(h2:Sort.ltInt d[r]! d[2*r+1]! =false):Sort.siftDown Sort.ltInt hi 0 r d=d:=by
 have:=Sort.sd_left_stop (lt:=Sort.ltInt) (hi:=hi) (F:=0) (root:=r) d h;simp only[Nat.zero_add]at this;exact this h1 h2
theorem Ei {d:Array Int}{hi r:Nat}(h:2*r+1<hi)(h1:2*r+2<hi->Sort.ltInt d[2*r+1]! d[2*r+2]! =false)(h2:Sort.ltInt d[r]! d[2*r+1]! =true):Sort.siftDown Sort.ltInt hi 0 r d=Sort.siftDown Sort.ltInt hi 0 (2*r+1) (Sort.swp d r (2*r+1)):=by
 have:=Sort.sd_left_go (lt:=Sort.ltInt) (hi:=hi) (F:=0) (root:=r) d h;simp only[Nat.zero_add]at this;exact this h1 h2
theorem cz (g c n:Nat){i j:Int}(ni nj:Nat)(ei:(ni:Int)=i)(ej:(nj:Int)=j){x y:Int}(b:Bool)(w:World)(hi:ni<n)(hj:nj<n)(cx:w.cell? ⟨g,ni,none⟩=some (.int .u64 x))(cy:w.cell? ⟨g,nj,none⟩=some (.int .u64 y))(hb:Sort.ltInt y x=b) :
 Calls Tryz.prog 250 #[.slice (some ⟨g,0,none⟩) n c,.int .i64 i,.int .i64 j] w fun e w'=>e=.returned (.bool b)/\∃q,w'=w.drewN q:=by
 subst ei ej hb;exact Hi g c n ni nj x y w hi hj cx cy
theorem gt (g c n:Nat){i j:Int}(ni nj:Nat)(ei:(ni:Int)=i)(ej:(nj:Int)=j)(d:Array Int)(w:World)(hn:d.size=n)(hH:Sort.Holds (Value.int .u64) w g 0 d)(hg:g<w.heap.size)(hi:ni<n)(hj:nj<n) :
 Calls Tryz.prog 251 #[.slice (some ⟨g,0,none⟩) n c,.int .i64 i,.int .i64 j] w fun e w'=>e=.returned (.tuple #[])/\St w g 0 d (Sort.swp d ni nj) w':=by
 subst ei ej;exact Hn g c n ni nj d w hn hH hg hi hj
theorem y7 (B g c n i hi:Nat)(d:Array Int)(hn:d.size=n)(w:World)(hB:w.cell? ⟨B,0,none⟩=some (.slice (some ⟨g,0,none⟩) n c))(hne:B≠g)(hH:Sort.Holds (Value.int .u64) w g 0 d)(hg:g<w.heap.size)(hhi:hi<=n)(hsz:n<=1000000)(hi0:i<=hi) :
 Calls Tryz.prog 161 #[.iface 162 (.pointer (some ⟨B,0,none⟩)),.int .i64 i,.int .i64 hi] w fun e w'=>(∃b,e=.returned (.bool b))/\St w g 0 d (Sort.siftDown Sort.ltInt hi 0 i d) w':=by
 have H0:Hid (Sort.Holds (Value.int .u64) w g 0 d):=hH;have HN:Hid (d.size=n):=hn;have HB:Hid _:=hB;clear hH hn hB
 go_enter Tryz.func161,Tryz.ntmps161
 go_wp2_with fail;go_loopw [7] (fun v7 wr=>∃(r:Nat) (dk:Array Int),v7=.int .i64 r/\r<=hi/\Hid (St w g 0 d dk wr/\Sort.siftDown Sort.ltInt hi 0 r dk=Sort.siftDown Sort.ltInt hi 0 i d)) (fun v7 _=>hi-(intOf v7).toNat)
 case atStart=>exact⟨i,d,rfl,hi0,St.refl H0.out,rfl⟩
 case round =>
  obtain⟨r,dk,rfl,hr,hS⟩:=hrel;have cB:=lE hS.out.1 HB.out hne;by_cases h0:hi<=2*r+1
  · have e0:(hi:Int)<=2*(r:Int)+1:=by omega
    have HR:Hid (St w g 0 d (Sort.siftDown Sort.ltInt hi 0 i d) wr):=by
     refine af ?_;rw[←hS.out.2,Gt h0];exact hS.out.1
    clear hS;go_wp2;go_ret;exact⟨⟨_,rfl⟩,HR.out⟩
  · have e0:decide ((hi:Int)<=2*(r:Int)+1)=false:=df (by omega);have e1:decide (2*(r:Int)+1<0)=false:=df (by omega);have hds:Hid (dk.size=n):=by refine af ?_;rw[hS.out.1.1,HN.out]
    have hh:=hS.out.1.hold H0.out hg;have HH:=af hh;obtain⟨G,hG,hcw,-⟩:=hS.out.1.fam H0.out hg;rw[HN.out]at hcw;simp only[Nat.zero_add]at hcw;have HG:Hid (∀t,G t=dk[t]!):=hG;have CW:Hid _:=hcw;have SS:=af hS.out.1;have ED:=af hS.out.2;clear hG hcw hh hS;have mL:=nD B wr _ cB;by_cases h1:2*r+2<hi
    · have e2:2*(r:Int)+1+1<(hi:Int):=by omega
      cases hL:Sort.ltInt (G (2*r+1)) (G (2*r+2))
      · have LA:=af (cz g c n (2*r+2) (2*r+1) (i:=2*(r:Int)+1+1) (j:=2*(r:Int)+1) (by omega) (by omega) false wr (by omega) (by omega) (CW.out _ (by omega)) (CW.out _ (by omega)) hL);go_wp2_with fail;refine LA.out.mono ?_;rintro e w2 ⟨rfl,q2,rfl⟩;have S2:=af (SS.out.drawn q2);have C2:Hid (∀t,t<n->(wr.drewN q2).cell? ⟨g,t,none⟩=some (.int .u64 (G t))):=CW;have H2:Hid (Sort.Holds (Value.int .u64) (wr.drewN q2) g 0 dk/\g<(wr.drewN q2).heap.size):=HH;have cB2:(wr.drewN q2).cell? ⟨B,0,none⟩=some (.slice (some ⟨g,0,none⟩) n c):=cB;clear LA mL SS CW HH cB;generalize wr.drewN q2=wr2 at *;have SS:=S2;have CW:=C2;have HH:=H2;have cB:=cB2;clear S2 C2 H2 cB2;have mL:=nD B wr2 _ cB;go_wp2_with fail;cases hM:Sort.ltInt (G r) (G (2*r+1))
        · have LB:=af (cz g c n (2*r+1) r (i:=2*(r:Int)+1) (j:=(r:Int)) (by omega) rfl false wr2 (by omega) (by omega) (CW.out (2*r+1) (by omega)) (CW.out r (by omega)) hM);refine LB.out.mono ?_;clear LB;rintro e w3 ⟨rfl,q3,rfl⟩;have HR:=af (show St w g 0 d (Sort.siftDown Sort.ltInt hi 0 i d) (wr2.drewN q3)by rw[←ED.out,Ej (by omega) (fun _=>by rw[←HG.out,←HG.out];exact hL) (by rw[←HG.out,←HG.out];exact hM)];exact SS.out.drawn q3);clear SS CW HH hM;go_wp2;go_ret;exact⟨⟨_,rfl⟩,HR.out⟩
        · have LB:=af (cz g c n (2*r+1) r (i:=2*(r:Int)+1) (j:=(r:Int)) (by omega) rfl true wr2 (by omega) (by omega) (CW.out (2*r+1) (by omega)) (CW.out r (by omega)) hM);refine LB.out.mono ?_;clear LB;rintro e w3 ⟨rfl,q3,rfl⟩;have mS:=ks B (wr2.drewN q3) _ cB;have S3:=af (SS.out.drawn q3);have SW:=af (gt g c n r (2*r+1) (i:=(r:Int)) (j:=2*(r:Int)+1) rfl (by omega) dk (wr2.drewN q3) hds.out (S3.out.hold H0.out hg).1 (S3.out.hold H0.out hg).2 (by omega) (by omega));have GO:Hid (Sort.siftDown Sort.ltInt hi 0 r dk=Sort.siftDown Sort.ltInt hi 0 (2*r+1) (Sort.swp dk r (2*r+1))):=af (Ei (by omega) (fun _=>by rw[←HG.out,←HG.out];exact hL) (by rw[←HG.out,←HG.out];exact hM));clear SS CW HH hM;generalize wr2.drewN q3=w4 at *;go_wp2_with fail;refine SW.out.mono ?_;rintro e w5 ⟨rfl,h5⟩;have S5:=af (S3.out.trans hg h5);clear h5 SW S3 mS;go_wp2_with fail;go_roundw
          case rel=>exact⟨2*r+1,_,by congr 1 <;>omega,by omega,S5.out,by rw[←GO.out];exact ED.out⟩
          case measure=>simp[intOf];omega
      · have LA:=af (cz g c n (2*r+2) (2*r+1) (i:=2*(r:Int)+1+1) (j:=2*(r:Int)+1) (by omega) (by omega) true wr (by omega) (by omega) (CW.out _ (by omega)) (CW.out _ (by omega)) hL);go_wp2_with fail;refine LA.out.mono ?_;rintro e w2 ⟨rfl,q2,rfl⟩;have S2:=af (SS.out.drawn q2);have C2:Hid (∀t,t<n->(wr.drewN q2).cell? ⟨g,t,none⟩=some (.int .u64 (G t))):=CW;have H2:Hid (Sort.Holds (Value.int .u64) (wr.drewN q2) g 0 dk/\g<(wr.drewN q2).heap.size):=HH;have cB2:(wr.drewN q2).cell? ⟨B,0,none⟩=some (.slice (some ⟨g,0,none⟩) n c):=cB;clear LA mL SS CW HH cB;generalize wr.drewN q2=wr2 at *;have SS:=S2;have CW:=C2;have HH:=H2;have cB:=cB2;clear S2 C2 H2 cB2;have mL:=nD B wr2 _ cB;go_wp2_with fail;cases hM:Sort.ltInt (G r) (G (2*r+2))
        · have LB:=af (cz g c n (2*r+2) r (i:=2*(r:Int)+1+1) (j:=(r:Int)) (by omega) rfl false wr2 (by omega) (by omega) (CW.out (2*r+2) (by omega)) (CW.out r (by omega)) hM);refine LB.out.mono ?_;clear LB;rintro e w3 ⟨rfl,q3,rfl⟩;have HR:=af (show St w g 0 d (Sort.siftDown Sort.ltInt hi 0 i d) (wr2.drewN q3)by rw[←ED.out,JC h1 (by rw[←HG.out,←HG.out];exact hL) (by rw[←HG.out,←HG.out];exact hM)];exact SS.out.drawn q3);clear SS CW HH hM;go_wp2;go_ret;exact⟨⟨_,rfl⟩,HR.out⟩
        · have LB:=af (cz g c n (2*r+2) r (i:=2*(r:Int)+1+1) (j:=(r:Int)) (by omega) rfl true wr2 (by omega) (by omega) (CW.out (2*r+2) (by omega)) (CW.out r (by omega)) hM);refine LB.out.mono ?_;clear LB;rintro e w3 ⟨rfl,q3,rfl⟩;have mS:=ks B (wr2.drewN q3) _ cB;have S3:=af (SS.out.drawn q3);have SW:=af (gt g c n r (2*r+2) (i:=(r:Int)) (j:=2*(r:Int)+1+1) rfl (by omega) dk (wr2.drewN q3) hds.out (S3.out.hold H0.out hg).1 (S3.out.hold H0.out hg).2 (by omega) (by omega));have GO:Hid (Sort.siftDown Sort.ltInt hi 0 r dk=Sort.siftDown Sort.ltInt hi 0 (2*r+2) (Sort.swp dk r (2*r+2))):=af (JB h1 (by rw[←HG.out,←HG.out];exact hL) (by rw[←HG.out,←HG.out];exact hM));clear SS CW HH hM;generalize wr2.drewN q3=w4 at *;go_wp2_with fail;refine SW.out.mono ?_;rintro e w5 ⟨rfl,h5⟩;have S5:=af (S3.out.trans hg h5);clear h5 SW S3 mS;go_wp2_with fail;go_roundw
          case rel=>exact⟨2*r+2,_,by congr 1 <;>omega,by omega,S5.out,by rw[←GO.out];exact ED.out⟩
          case measure=>simp[intOf];omega
    · have e2:decide (2*(r:Int)+1+1<(hi:Int))=false:=df (by omega);go_wp2_with fail;cases hM:Sort.ltInt (G r) (G (2*r+1))
      · have LB:=af (cz g c n (2*r+1) r (i:=2*(r:Int)+1) (j:=(r:Int)) (by omega) rfl false wr (by omega) (by omega) (CW.out (2*r+1) (by omega)) (CW.out r (by omega)) hM);refine LB.out.mono ?_;clear LB;rintro e w3 ⟨rfl,q3,rfl⟩;have HR:=af (show St w g 0 d (Sort.siftDown Sort.ltInt hi 0 i d) (wr.drewN q3)by rw[←ED.out,Ej (by omega) (fun h=>absurd h h1) (by rw[←HG.out,←HG.out];exact hM)];exact SS.out.drawn q3);clear SS CW HH hM;go_wp2;go_ret;exact⟨⟨_,rfl⟩,HR.out⟩
      · have LB:=af (cz g c n (2*r+1) r (i:=2*(r:Int)+1) (j:=(r:Int)) (by omega) rfl true wr (by omega) (by omega) (CW.out (2*r+1) (by omega)) (CW.out r (by omega)) hM);refine LB.out.mono ?_;clear LB;rintro e w3 ⟨rfl,q3,rfl⟩;have mS:=ks B (wr.drewN q3) _ cB;have S3:=af (SS.out.drawn q3);have SW:=af (gt g c n r (2*r+1) (i:=(r:Int)) (j:=2*(r:Int)+1) rfl (by omega) dk (wr.drewN q3) hds.out (S3.out.hold H0.out hg).1 (S3.out.hold H0.out hg).2 (by omega) (by omega));have GO:Hid (Sort.siftDown Sort.ltInt hi 0 r dk=Sort.siftDown Sort.ltInt hi 0 (2*r+1) (Sort.swp dk r (2*r+1))):=af (Ei (by omega) (fun h=>absurd h h1) (by rw[←HG.out,←HG.out];exact hM));clear SS CW HH hM;generalize wr.drewN q3=w4 at *;go_wp2_with fail;refine SW.out.mono ?_;rintro e w5 ⟨rfl,h5⟩;have S5:=af (S3.out.trans hg h5);clear h5 SW S3 mS;go_wp2_with fail;go_roundw
        case rel=>exact⟨2*r+1,_,by congr 1 <;>omega,by omega,S5.out,by rw[←GO.out];exact ED.out⟩
        case measure=>simp[intOf];omega
theorem y9 (j:Nat):((j:Int)-1).tdiv 2=(((j-1) / 2:Nat):Int):=by
 by_cases h:j=0
 · subst h;decide
 · rw[Int.tdiv_eq_ediv_of_nonneg (by omega)];omega
theorem Fe (n:Nat):(n:Int).tdiv 2=((n / 2:Nat):Int):=by rw[Int.tdiv_eq_ediv_of_nonneg (by omega)];omega
theorem JQ (B g c n j:Nat)(d:Array Int)(hn:d.size=n)(w:World)(hB:w.cell? ⟨B,0,none⟩=some (.slice (some ⟨g,0,none⟩) n c))(hne:B≠g)(hH:Sort.Holds (Value.int .u64) w g 0 d)(hg:g<w.heap.size)(hj:j<n)(hsz:n<=1000000) :
 Calls Tryz.prog 164 #[.iface 162 (.pointer (some ⟨B,0,none⟩)),.int .i64 j] w fun e w'=>e=.returned (.tuple #[])/\St w g 0 d (aN j d) w':=by
 have H0:Hid (Sort.Holds (Value.int .u64) w g 0 d):=hH;have HN:Hid (d.size=n):=hn;have HB:Hid _:=hB;clear hH hn hB
 go_enter Tryz.func164,Tryz.ntmps164
 go_wp2_with fail;go_loopw [1] (fun v1 wr=>∃(k:Nat) (dk:Array Int),v1=.int .i64 k/\k<n/\Hid (St w g 0 d dk wr/\aN k dk=aN j d)) (fun v1 _=>(intOf v1).toNat)
 case atStart=>exact⟨j,d,rfl,hj,St.refl H0.out,rfl⟩
 case round =>
  obtain⟨k,dk,rfl,hk,hS⟩:=hrel;have cB:=lE hS.out.1 HB.out hne;have et:=y9 k;obtain⟨m,hm⟩:∃m,(k-1) / 2=m:=⟨_,rfl⟩
  rw[hm]at et;by_cases h0:k=0
  · have e0:((m:Int) == (k:Int))=true:=by simp;omega
    have hmk:m<=k:=by omega
    have hmk2:(m:Int)<=1000000:=by omega
    have HR:Hid (St w g 0 d (aN j d) wr):=by
     refine af ?_;rw[←hS.out.2,h0,iY];exact hS.out.1
    clear hS h0 hm;go_wp2
    go_end0
    exact⟨rfl,HR.out⟩
  · have e0:((m:Int) == (k:Int))=false:=by simp;omega
    have hmk:m<k:=by omega
    have hds:Hid (dk.size=n):=by refine af ?_;rw[hS.out.1.1,HN.out]
    have HH:=af (hS.out.1.hold H0.out hg);obtain⟨G,hG,hcw,-⟩:=hS.out.1.fam H0.out hg;rw[HN.out]at hcw;simp only[Nat.zero_add]at hcw;have HG:Hid (∀t,G t=dk[t]!):=hG;have CW:Hid _:=hcw;have SS:=af hS.out.1;have ED:=af hS.out.2;have HM:=af hm;clear hG hcw hS hm;have mL:=nD B wr _ cB;go_wp2_with fail;cases hM:Sort.ltInt (G m) (G k)
    · have LB:=af (cz g c n k m (i:=(k:Int)) (j:=(m:Int)) rfl rfl false wr (by omega) (by omega) (CW.out k (by omega)) (CW.out m (by omega)) hM);refine LB.out.mono ?_;clear LB;rintro e w3 ⟨rfl,q3,rfl⟩;have HR:=af (show St w g 0 d (aN j d) (wr.drewN q3)by rw[←ED.out,iX (by rw[HM.out,←HG.out,←HG.out];exact hM)];exact SS.out.drawn q3);clear SS CW HH hM;go_wp2
      go_end0
      exact⟨rfl,HR.out⟩
    · have LB:=af (cz g c n k m (i:=(k:Int)) (j:=(m:Int)) rfl rfl true wr (by omega) (by omega) (CW.out k (by omega)) (CW.out m (by omega)) hM);refine LB.out.mono ?_;clear LB;rintro e w3 ⟨rfl,q3,rfl⟩;have mS:=ks B (wr.drewN q3) _ cB;have S3:=af (SS.out.drawn q3);have SW:=af (gt g c n m k (i:=(m:Int)) (j:=(k:Int)) rfl rfl dk (wr.drewN q3) hds.out (S3.out.hold H0.out hg).1 (S3.out.hold H0.out hg).2 (by omega) (by omega));have GO:Hid (aN k dk=aN m (Sort.swp dk m k)):=af (by rw[kJ (by omega) (by rw[HM.out,←HG.out,←HG.out];exact hM),HM.out]);clear SS CW HH hM;generalize wr.drewN q3=w4 at *;go_wp2_with fail;refine SW.out.mono ?_;rintro e w5 ⟨rfl,h5⟩;have S5:=af (S3.out.trans hg h5);clear h5 SW S3 mS;go_wp2_with fail;go_roundw
      case rel=>exact⟨m,_,rfl,by omega,S5.out,by rw[←GO.out];exact ED.out⟩
      case measure=>simp[intOf];omega
theorem y8 (B g c n:Nat){x:Int}(i hi:Nat)(ei:(i:Int)=x)(d:Array Int)(hn:d.size=n)(w:World)(hB:w.cell? ⟨B,0,none⟩=some (.slice (some ⟨g,0,none⟩) n c))(hne:B≠g)(hH:Sort.Holds (Value.int .u64) w g 0 d)(hg:g<w.heap.size)(hhi:hi<=n)(hsz:n<=1000000)(hi0:i<=hi) :
 Calls Tryz.prog 161 #[.iface 162 (.pointer (some ⟨B,0,none⟩)),.int .i64 x,.int .i64 hi] w fun e w'=>(∃b,e=.returned (.bool b))/\St w g 0 d (Sort.siftDown Sort.ltInt hi 0 i d) w':=by
 subst ei;exact y7 B g c n i hi d hn w hB hne hH hg hhi hsz hi0
theorem Hv (B g c n:Nat)(d:Array Int)(hn:d.size=n)(w:World)(hB:w.cell? ⟨B,0,none⟩=some (.slice (some ⟨g,0,none⟩) n c))(hne:B≠g)(hH:Sort.Holds (Value.int .u64) w g 0 d)(hg:g<w.heap.size)(hsz:n<=1000000) :
 Calls Tryz.prog 112 #[.iface 162 (.pointer (some ⟨B,0,none⟩))] w fun e w'=>e=.returned (.tuple #[])/\St w g 0 d (Sort.heapBuild Sort.ltInt n 0 (n / 2) d) w':=by
 have H0:Hid (Sort.Holds (Value.int .u64) w g 0 d):=hH;have HN:Hid (d.size=n):=hn;have HB:Hid _:=hB;have mN:=wW B w _ hB;have et:=Fe n;obtain⟨h,hh⟩:∃h,n / 2=h:=⟨_,rfl⟩
 rw[hh]at et;have hh0:h<=n:=by omega
 have HHn:=af hh;clear hH hn hB hh
 go_enter Tryz.func112,Tryz.ntmps112
 go_wp2_with fail;refine(wJ _ _ _ _).mono ?_;rintro e w1 ⟨rfl,rfl⟩;go_wp2_with fail;go_loopw [3] (fun v3 wr=>∃(k:Nat) (dk:Array Int),v3=.int .i64 ((k:Int)-1)/\k<=h/\Hid (St w1 g 0 d dk wr/\Sort.heapBuild Sort.ltInt n 0 k dk=Sort.heapBuild Sort.ltInt n 0 (n / 2) d)) (fun v3 _=>(intOf v3+1).toNat)
 case atStart=>exact⟨h,d,rfl,Nat.le_refl _,St.refl H0.out,by rw[HHn.out]⟩
 case round =>
  obtain⟨k,dk,rfl,hk,hS⟩:=hrel;have cB:=lE hS.out.1 HB.out hne;cases k with
  | zero =>
   have HR:Hid (St w1 g 0 d (Sort.heapBuild Sort.ltInt n 0 (n / 2) d) wr):=by
    refine af ?_;rw[←hS.out.2];exact hS.out.1
   clear hS;go_wp2
   go_end0
   exact⟨rfl,HR.out⟩
  | succ k =>
   have hds:dk.size=n:=by rw[hS.out.1.1,HN.out]
   have hh2:=hS.out.1.hold H0.out hg;have ek:(k:Int)=((k+1:Nat):Int)-1:=by omega
   have DN:=af (y8 B g c n (x:=((k+1:Nat):Int)-1) k n ek dk hds wr cB hne hh2.1 hh2.2 (Nat.le_refl _) hsz (by omega));have e0:(0:Int)<=((k+1:Nat):Int)-1:=by omega
   have SS:=af hS.out.1;have ED:=af (show Sort.heapBuild Sort.ltInt n 0 k (Sort.siftDown Sort.ltInt n 0 k dk)=_ from hS.out.2);clear hS hds hh2 ek;obtain⟨x,hx⟩:∃x,((k+1:Nat):Int)-1=x:=⟨_,rfl⟩
   rw[hx]at DN e0 ⊢;go_wp2_with fail;refine DN.out.mono ?_;rintro e w2 ⟨⟨b,rfl⟩,h2⟩;have S2:=af (SS.out.trans hg h2);clear h2 DN SS cB;go_wp2_with fail;go_roundw
   case rel=>exact⟨k,_,by congr 1;omega,by omega,S2.out,ED.out⟩
   case measure=>simp[intOf];omega
structure But (a b:Nat) (w w':World):Prop where
 os:w'.os=w.os
 tape:w'.tape=w.tape
 output:w'.output=w.output
 size:w.heap.size<=w'.heap.size
 block:∀k,k<w.heap.size->k≠a->k≠b->w'.heap[k]?=w.heap[k]?
theorem But.refl (a b:Nat)(w:World):But a b w w:=⟨rfl,rfl,rfl,Nat.le_refl _,fun _ _ _ _=>rfl⟩
theorem But.trans {a b b':Nat}{u v w:World}(h:But a b u v)(k:But a b' v w)(hb:b'=b∨u.heap.size<=b'):But a b u w :=
 ⟨k.os.trans h.os,k.tape.trans h.tape,k.output.trans h.output,Nat.le_trans h.size k.size,fun i hi ha hib=>by
   rw[k.block i (Nat.lt_of_lt_of_le hi h.size) ha (by omega),h.block i hi ha hib]⟩
theorem But.cell {a b:Nat}{w w':World}(h:But a b w w'){p:Addr}{v:Value}(hc:w.cell? p=some v)(h1:p.block≠a)(h2:p.block≠b):w'.cell? p=some v :=
 (World.cell?_of_block (h.block p.block (World.block_lt_of_cell? _ _ hc) h1 h2)).trans hc
theorem But.below {a b B:Nat}{w w':World}(h:But a b w w')(ha:B<=a)(hb:B<=b)(hB:B<=w.heap.size):Below B w w':=⟨h.os,h.tape,h.output,h.size,fun k hk=>h.block k (by omega) (by omega) (by omega)⟩
theorem But.own {a b:Nat}{w w':World}(h:But a b w w'){base:Nat}{e:TypeId}{size:Nat}{v:Value}{n:Nat}{xs:List Value}(ho:w.ownsRow base e size v n xs)(h1:v.ownBlock≠some a)(h2:v.ownBlock≠some b):w'.ownsRow base e size v n xs:=by
 refine⟨ho.1,?_⟩;rcases ho.2 with hn | ⟨g,cap,cur,rfl,hb,hgg,rest⟩
 · exact .inl hn
 · refine .inr ⟨g,cap,cur,rfl,hb,?_,rest⟩;rw[h.block g (Array.getElem?_eq_some_iff.1 hgg).1 (fun e=>h1 (by rw[e];rfl)) (fun e=>h2 (by rw[e];rfl))];exact hgg
theorem But.set {a b:Nat}{u w:World}(h:But a b u w){p:Addr}(v:Value)(hp:p.block=a∨p.block=b):But a b u (w.setCell p v):=by
 refine⟨h.os,h.tape,h.output,by simpa using h.size,fun k hk h1 h2=>?_⟩;rw[Below.heap_setCell _ _ _ _ (by rcases hp with hp | hp <;>omega)];exact h.block k hk h1 h2
theorem io {w w':World}{a g:Nat}{d0 d:Array Int}(h:St w g 0 d0 d w'):But a g w w':=by
 obtain⟨n,os,rfl⟩:=h.2;refine⟨rfl,rfl,rfl,by simp[Sort.grow,Sort.putRow,Sort.mapBlock,Sort.ahead],fun k hk _ h2=>?_⟩;rw[Sort.heap_grow_old _ _ (by simp[Sort.putRow,Sort.mapBlock,Sort.ahead];exact hk)];show(w.heap.modify g _)[k]?=_
 rw[Array.getElem?_modify,if_neg (Ne.symm h2)]
theorem Am {w w':World}{base g c n:Nat}{d d':Array Int}(hn:d.size=n)(ho:w.ownsRow base 35 1 (.slice (some ⟨g,0,none⟩) n c) n (aj d.toList))(h:St w g 0 d d' w'):w'.ownsRow base 35 1 (.slice (some ⟨g,0,none⟩) n c) n (aj d'.toList):=by
 have hH:Sort.Holds (Value.int .u64) w g 0 d:=by have:=iB ho;simpa using this
 have hg:=(ho.lt g rfl).2;have hH':=(h.hold hH hg).1;have hs:d'.size=n:=by rw[h.1,hn]
 refine⟨by rw[aD];simp[hs],.inr ?_⟩;rcases ho.2 with⟨e,_⟩ | ⟨g2,c2,cur,e,hb,hgg,h1,h2,h3,h4⟩
 · cases e
 simp only[Value.slice.injEq,Option.some.injEq,Addr.mk.injEq,and_true,true_and]at e;obtain⟨rfl,rfl⟩:=e;obtain⟨c',e1,e2⟩:=Ar hg h _ _ _ hgg;refine⟨g,c,c',rfl,hb,e2,h1,h2,by rw[e1];exact h3,?_⟩;refine List.ext_getElem? fun j=>?_;rw[Nat.mul_one,List.getElem?_take];by_cases hj:j<n
 · rw[if_pos hj];have h8:=(hH' j (by omega)).1;rw[cell_of_row w' g (0+j) c' 35 (0,0) e2,Nat.zero_add]at h8;rw[Array.getElem?_toList,h8,dG _ j (by simpa[hs]using hj),getElem!_pos d' j (by omega)];simp
 · rw[if_neg hj,List.getElem?_eq_none (by rw[aD];simp[hs];omega)]
theorem xh {w:World}{base g c n m:Nat}{L:List Int}(ho:w.ownsRow base 35 1 (.slice (some ⟨g,0,none⟩) n c) n (aj L))(hm:m<=n):w.ownsRow base 35 1 (.slice (some ⟨g,0,none⟩) m c) m (aj (L.take m)):=by
 have hl:L.length=n:=by have:=ho.1;rw[aD]at this;omega
 rcases ho.2 with⟨e,_⟩ | ⟨g2,c2,cur,e,hb,hgg,h1,h2,h3,h4⟩
 · cases e
 simp only[Value.slice.injEq,Option.some.injEq,Addr.mk.injEq,and_true,true_and]at e;obtain⟨rfl,rfl⟩:=e;refine⟨by rw[aD,List.length_take];omega,.inr ⟨g,c,cur,rfl,hb,hgg,by omega,h2,h3,?_⟩⟩;rw[Nat.mul_one]at h4 ⊢;have e:aj (L.take m)=(aj L).take m:=by unfold aj;rw[List.map_take]
 rw[e,←h4,List.take_take,Nat.min_eq_left hm]
def Hat (w:World)(base B g c:Nat)(L:List Int):Prop :=
 w.cell? ⟨B,0,none⟩=some (.slice (some ⟨g,0,none⟩) L.length c)/\w.frozen? ⟨B,0,none⟩=false/\B≠g/\w.ownsRow base 35 1 (.slice (some ⟨g,0,none⟩) L.length c) L.length (aj L)
theorem Hat.lt {w:World}{base B g c:Nat}{L:List Int}(h:Hat w base B g c L):g<w.heap.size/\base<=g/\B<w.heap.size:=⟨(h.2.2.2.lt g rfl).2,(h.2.2.2.lt g rfl).1,World.block_lt_of_cell? _ _ h.1⟩
theorem Hat.holds {w:World}{base B g c:Nat}{L:List Int}(h:Hat w base B g c L):Sort.Holds (Value.int .u64) w g 0 L.toArray:=iB h.2.2.2
theorem Hat.st {w w':World}{base B g c n:Nat}{L:List Int}{d:Array Int}(h:Hat w base B g c L)(hn:L.length=n)(hs:St w g 0 L.toArray d w'):Hat w' base B g c d.toList/\d.toList.length=n:=by
 have e:d.size=L.length:=by rw[hs.1];simp
 have hb:=io (a:=g) hs;have hl:=World.block_lt_of_cell? _ _ h.1;refine⟨⟨?_,?_,h.2.2.1,?_⟩,by simp[e,hn]⟩
 · have:=lE hs h.1 h.2.2.1;rw[this];simp[e]
 · rw[World.frozen?_of_block (hb.block B hl h.2.2.1 h.2.2.1)];exact h.2.1
 · have:=Am (n:=L.length) (by simp) (by simpa using h.2.2.2) hs
   simpa[e]using this
theorem Hat.keep {w w':World}{base B g c:Nat}{L:List Int}(h:Hat w base B g c L)(hb:Below w.heap.size w w'):Hat w' base B g c L :=
 ⟨aa hb h.1,ac hb h.1 h.2.1,h.2.2.1,ai hb h.2.2.2⟩
theorem Jg (base B g c m:Nat)(L:List Int)(x:Int)(hL:L.length=m+1)(w:World)(h:Hat w base B g c L)(hx:L[m]'(by omega)=x)(hsz:m<=1000000) :
 Calls Tryz.prog 252 #[.pointer (some ⟨B,0,none⟩)] w fun e w'=>e=.returned (.iface 35 (.int .u64 x))/\Hat w' base B g c (L.take m)/\But B g w w':=by
 have hB:=h.1;have hF:=h.2.1;have hc:=(bn h.2.2.2).2.1 m (by omega);rw[hx]at hc;rw[hL]at hB;have hle:m+1<=c:=by
  rcases h.2.2.2.2 with⟨e,_⟩ | ⟨g2,c2,cur,e,_,_,h1,_⟩
  · cases e
  · simp only[Value.slice.injEq,true_and]at e;rw[e.2,←hL];exact h1
 have HH:=af h;have HL:=af hL;clear h hL hx;have e1:((m+1:Nat):Int)-1=(m:Int):=by omega
 go_enter Tryz.func252,Tryz.ntmps252
 go_wp2;go_ret;have hl:(L.take m).length=m:=by rw[List.length_take];have:=HL.out;omega
 refine⟨rfl,⟨?_,?_,HH.out.2.2.1,?_⟩,(But.refl _ _ _).set _ (.inl rfl)⟩
 · rw[hl];go_simp
 · go_simp
 · rw[hl];have hne:=HH.out.2.2.1;refine But.own (a:=B) (b:=B) ((But.refl _ _ _).set _ (.inl rfl)) (xh (by have:=HH.out.2.2.2;rw[HL.out]at this;exact this) (by omega)) (fun e=>hne (by simpa[Value.ownBlock,eq_comm]using e)) (fun e=>hne (by simpa[Value.ownBlock,eq_comm]using e))
theorem Ji (base B g c m:Nat)(L:List Int)(hL:L.length=m+1)(w:World)(h:Hat w base B g c L)(hp:Hp (m+1) L.toArray)(hsz:m+1<=1000000) :
 Calls Tryz.prog 179 #[.iface 162 (.pointer (some ⟨B,0,none⟩))] w fun e w'=>∃(x:Int) (L':List Int),e=.returned (.iface 35 (.int .u64 x))/\L.Perm (x :: L')/\(∀y∈L',y<=x)/\L'.length=m/\Hp m L'.toArray/\Hat w' base B g c L'/\But B g w w':=by
 have hs:L.toArray.size=m+1:=by simp[hL]
 have P:=zc hp hs;have hmax:=ns hp hs;obtain⟨x,hx⟩:∃x,L.toArray[0]! =x:=⟨_,rfl⟩
 rw[hx]at P hmax;clear hx;have hB:=h.1;rw[hL]at hB;have hl:=h.lt;have hne:=h.2.2.1;have mN:=wW B w _ hB;have mS:=ks B w _ hB;have SW:=af (gt g c (m+1) (i:=0) (j:=(m:Int)) 0 m rfl rfl L.toArray w hs h.holds hl.1 (by omega) (by omega));have HH:=af h;have HL:=af hL;have HP:=af P;have HM:=af hmax;have e1:((m+1:Nat):Int)-1=(m:Int):=by omega
 clear h hL hp P hmax
 go_enter Tryz.func179,Tryz.ntmps179
 go_wp2_with fail;refine(wJ _ _ _ _).mono ?_;rintro e w0 ⟨rfl,rfl⟩;go_wp2_with fail;refine SW.out.mono ?_;rintro e w1 ⟨rfl,h1⟩;have hH1:=HH.out.st HL.out h1;have hb1:=io (a:=B) h1;have hl1:=hH1.1.lt;have DN:=af (y7 B g c (m+1) 0 m (Sort.swp L.toArray 0 m) (by rw[Sort.size_swp];simp[HL.out]) w1 (by have:=hH1.1.1;rwa [hH1.2]at this) hne (by have:=hH1.1.holds;simpa using this) hl1.1 (by omega) hsz (Nat.zero_le _));have hH1':=af hH1;have hb1':=af hb1;clear SW h1 mN mS hB hH1 hb1 hl1;go_wp2_with fail;refine DN.out.mono ?_;rintro e w2 ⟨⟨b,rfl⟩,h2⟩;have h2':St w1 g 0 (Sort.swp L.toArray 0 m).toList.toArray (bT m L.toArray) w2:=by simpa[bT]using h2
 have hH2:=hH1'.out.1.st hH1'.out.2 h2';have hb2:=af (hb1'.out.trans (io (a:=B) h2) (.inl rfl));have hsd:(bT m L.toArray).size=m+1:=HP.out.1;have PO:=af (Jg base B g c m (bT m L.toArray).toList x hH2.2 w2 hH2.1 (by have:=HP.out.2.1;rw[getElem!_pos _ m (by omega)]at this;simpa using this) (by omega));have mP:=Jn B w2;clear DN h2 h2' hH2 hH1' hb1';go_wp2_with fail;refine PO.out.mono ?_;rintro e w3 ⟨rfl,h3,hb3⟩;have h3':=af h3;have hb3':=af (hb2.out.trans hb3 (.inl rfl));clear PO mP h3 hb3 hb2;go_wp2;go_ret;have p:=HP.out.2.2.2.1;have p:L.Perm (x :: (bT m L.toArray).toList.take m):=p;refine⟨x,_,rfl,p,fun y hy=>HM.out y ?_,HP.out.2.2.2.2,HP.out.2.2.1,h3'.out,hb3'.out⟩;show y∈L
 exact p.mem_iff.2 (List.mem_cons_of_mem _ hy)
theorem yo (x:Int)(w:World):(Instr.typeAssert (.iface 35 (.int .u64 x)) 20 35 false).run Tryz.prog w=.ok (.int .u64 x) w:=by kernel_rfl
theorem yW (base B g c m:Nat)(L:List Int)(hL:L.length=m+1)(w:World)(h:Hat w base B g c L)(hp:Hp (m+1) L.toArray)(hsz:m+1<=1000000) :
 Calls Tryz.prog 162 #[.pointer (some ⟨B,0,none⟩)] w fun e w'=>∃(x:Int) (L':List Int),e=.returned (.int .u64 x)/\L.Perm (x :: L')/\(∀y∈L',y<=x)/\L'.length=m/\Hp m L'.toArray/\Hat w' base B g c L'/\But B g w w':=by
 have PO:=af (Ji base B g c m L hL w h hp hsz);clear h hp hL
 go_enter Tryz.func162,Tryz.ntmps162
 go_wp2_with fail;refine PO.out.mono ?_;rintro e w1 ⟨x,L',rfl,h1⟩;have h1':=af h1;clear PO h1;have hA:=yo x w1;go_wp2;go_ret;exact⟨x,L',rfl,h1'.out⟩
theorem Cg {w w6:World}{row:Option Nat}{p:Addr}{v:Value}(hg:w.grownBy w6 row)(hne:some p.block≠row)(h:w.cell? p=some v/\w.frozen? p=false):w6.cell? p=some v/\w6.frozen? p=false :=
 ⟨hg.cell h.1 hne,by rw[World.frozen?_of_block (hg.block p.block (World.block_lt_of_cell? _ _ h.1) hne)];exact h.2⟩
theorem oD:(Tryz.prog.info? 35).map (fun i=>(i.zero,i.size,i.bytes))=some (some (.int .u64 0),1,8):=by kernel_rfl
theorem Hl (base B g c:Nat)(L:List Int)(x:Int)(w:World)(h:Hat w base B g c L)(hbase:base<=w.heap.size)(hsz:L.length<=100000) :
 Calls Tryz.prog 253 #[.pointer (some ⟨B,0,none⟩),.iface 35 (.int .u64 x)] w fun e w'=>e=.returned (.tuple #[])/\∃g' c',Hat w' base B g' c' (L++[x])/\But B g w w'/\(g'=g∨w.heap.size<=g'):=by
 have hB:=h.1;have hF:=h.2.1;have HH:=af h;have hO:=af h.2.2.2;have hl:=h.lt;obtain⟨n,hn⟩:∃n,L.length=n:=⟨_,rfl⟩
 have HN:=af hn;have hA:=yo x;rw[hn]at hB hO hsz;have hBa:=aa (ag w (.cells #[.int .u64 x] 35)) hB;have hFa:=ac (ag w (.cells #[.int .u64 x] 35)) hB hF;have hOa:=af (ai (ag w (.cells #[.int .u64 x] 35)) hO.out);have hne:B≠g:=h.2.2.1;have CS:=af (And.intro hBa hFa);have hneQ:some (⟨B,0,none⟩:Addr).block≠(Value.slice (some ⟨g,0,none⟩) n c).ownBlock:=by simpa[Value.ownBlock]using hne
 clear h hn;obtain⟨i0,hi,hz0,hz1,hz2⟩:=info_parts oD
 go_enter Tryz.func253,Tryz.ntmps253
 go_wp2_with fail
 go_region_law ((refine step_append_lies _ (by rfl) _ _ _ (by rfl) base 35 i0 (.int .u64 0) 1 8 Tryz.underlying160 hi hz0 hz1 hz2 rfl (by decide) _ n (aj L) (by rfl) hOa.out ⟨w.heap.size,0,none⟩ 1 1 [.int .u64 x] (by rfl) rfl (bf w.drew w.heap.size rfl (.int .u64 x) 35) (bK _ _) (by decide) (by unfold maxLen;omega) (by omega) (by simp;omega) (w.heap.size+1) (by simp) ?_;intro g6 c6 w6 hown hgrow hat hlt6;obtain⟨cs6,fs6⟩:=Cg hgrow hneQ CS.out))
 all_goals
  have hg6:B≠g6/\(g6=g∨w.heap.size<=g6):=by
   rcases hat with h | h
   · simp only[Value.ownBlock,Option.some.injEq]at h;exact⟨by omega,.inl h.symm⟩
   · exact⟨by omega,.inr (by omega)⟩
  have hb6:But B g w w6:=by
   have b0:=ag w (.cells #[.int .u64 x] 35);have b1:But B g w (w.alloc (.cells #[.int .u64 x] 35)).drew:=⟨b0.os,b0.tape,b0.output,b0.size,fun k hk _ _=>b0.block k hk⟩
   refine b1.trans (b':=g) ⟨hgrow.os,hgrow.tape,hgrow.output,hgrow.size,fun k hk _ h2=>hgrow.block k hk (by simp[Value.ownBlock];exact h2)⟩ (.inl rfl)
  have FIN:=af (And.intro hown (And.intro hg6 hb6));have CF:=af (And.intro cs6 fs6);clear hown hgrow hat hg6 hb6;go_wp2_with fail
  go_end0
  obtain⟨ho,hg6,hb6⟩:=FIN.out;have hl6:(L++[x]).length=n+1:=by simp[HN.out]
  have hv:aj (L++[x])=aj L++[.int .u64 x]:=by simp[aj]
  refine⟨rfl,g6,c6,⟨?_,?_,hg6.1,?_⟩,hb6.set _ (.inl rfl),hg6.2⟩
  · rw[hl6];have:=CF.out.1;go_simp
  · have:=CF.out.2;go_simp
  · rw[hl6,hv];exact(But.own (a:=B) (b:=B) ((But.refl _ _ _).set _ (.inl rfl)) ho (fun e=>hg6.1 (by simpa[Value.ownBlock,eq_comm]using e)) (fun e=>hg6.1 (by simpa[Value.ownBlock,eq_comm]using e)))
theorem Hw (base B g c n:Nat)(L:List Int)(x:Int)(hn:L.length=n)(w:World)(h:Hat w base B g c L)(hp:Hp n L.toArray)(hbase:base<=w.heap.size)(hsz:n<=100000) :
 Calls Tryz.prog 114 #[.iface 162 (.pointer (some ⟨B,0,none⟩)),.iface 35 (.int .u64 x)] w fun e w'=>e=.returned (.tuple #[])/\∃g' c' L',Hat w' base B g' c' L'/\L'.Perm (x :: L)/\Hp (n+1) L'.toArray/\L'.length=n+1/\But B g w w'/\(g'=g∨w.heap.size<=g'):=by
 have hP:=af (uN hp (by simp[hn]) x);have FP:=af (Hl base B g c L x w h hbase (by omega));have HN:=af hn;have mP:=H6 B w;clear h hp hn
 go_enter Tryz.func114,Tryz.ntmps114
 go_wp2_with fail;refine FP.out.mono ?_;rintro e w1 ⟨rfl,g1,c1,h1,hb1,hg1⟩;have hl1:(L++[x]).length=n+1:=by simp[HN.out]
 have hB1:=h1.1;rw[hl1]at hB1;have mN:=wW B w1 _ hB1;have hsd:((L++[x]).toArray).size=n+1:=by simp[HN.out]
 have UP:=af (JQ B g1 c1 (n+1) n (L++[x]).toArray hsd w1 hB1 h1.2.2.1 h1.holds h1.lt.1 (by omega) (by omega));have H1:=af (And.intro h1 (And.intro hb1 hg1));have e1:((n+1:Nat):Int)-1=(n:Int):=by omega
 clear FP mP h1 hb1 hg1 hB1;go_wp2_with fail;refine(wJ _ _ _ _).mono ?_;rintro e w2 ⟨rfl,rfl⟩;go_wp2_with fail;refine UP.out.mono ?_;rintro e w3 ⟨rfl,h3⟩;have HS:=af h3;clear UP h3 mN;go_wp2_with fail
 go_end0
 obtain⟨h1,hb1,hg1⟩:=H1.out;have h4:=h1.st hl1 HS.out;have e2:(L++[x]).toArray=L.toArray.push x:=by simp
 have hp:=hP.out;rw[←e2]at hp;exact⟨rfl,g1,c1,_,h4.1,by simpa using hp.2.1,by simpa using hp.1,h4.2,hb1.trans (io HS.out) hg1,hg1⟩
end Go.Proofs.YtbnlhdnnenahfaaGreatDoor
