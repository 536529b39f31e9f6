/-
  What the texts HSpot, HHeap, HFront say, so far as this seat's proofs need it.
-/
import Derived.Test.YtbnlhdnnenahfaaGreatDoorQ1Y
import Derived.Deep.AppendLies
set_option maxHeartbeats 8000000
set_option maxRecDepth 100000
namespace Go.Proofs.YtbnlhdnnenahfaaGreatDoor
open Go.RowKit
def RowS (base g c:Nat)(d:Array Int)(w:World):Prop:=w.ownsRow base 185 3 (.slice (some ⟨g,0,none⟩) d.size c) d.size (bY d.toList)
theorem RowS.lt {base g c:Nat}{d:Array Int}{w:World}(h:RowS base g c d w):base<=g/\g<w.heap.size:=World.ownsRow.lt h g rfl
theorem oR {base g c n:Nat}{L:List Int}{w:World}(h:w.ownsRow base 185 3 (.slice (some ⟨g,0,none⟩) n c) n (bY L))(i:Nat)(hi:i<L.length) :
 (w.cell? ⟨g,i*3,none⟩=some (.int .i64 (sp0 L[i]))/\w.cell? ⟨g,i*3+1,none⟩=some (.int .i64 (sp1 L[i]))/\w.cell? ⟨g,i*3+2,none⟩=some (.int .i64 (sp2 L[i]))) /\
   w.frozen? ⟨g,i*3,none⟩=false/\w.frozen? ⟨g,i*3+1,none⟩=false/\w.frozen? ⟨g,i*3+2,none⟩=false:=by
 have f:=uI L i hi;have hl:L.length*3=n*3:=by rw[←jv];exact h.1
 have c:=fun j hj=>World.ownsRow.cellAt h j hj;exact⟨⟨(c _ (by omega)).trans f.1,(c _ (by omega)).trans f.2.1,(c _ (by omega)).trans f.2.2⟩,World.ownsRow.frozenAt h _,World.ownsRow.frozenAt h _,World.ownsRow.frozenAt h _⟩
theorem RowS.at_ {base g c:Nat}{d:Array Int}{w:World}(h:RowS base g c d w)(i:Nat)(hi:i<d.size) :
 (w.cell? ⟨g,i*3,none⟩=some (.int .i64 (sp0 d[i]!))/\w.cell? ⟨g,i*3+1,none⟩=some (.int .i64 (sp1 d[i]!))/\w.cell? ⟨g,i*3+2,none⟩=some (.int .i64 (sp2 d[i]!))) /\
   w.frozen? ⟨g,i*3,none⟩=false/\w.frozen? ⟨g,i*3+1,none⟩=false/\w.frozen? ⟨g,i*3+2,none⟩=false:=by
 have e:d.toList[i]'(by simpa using hi)=d[i]! :=by rw[getElem!_pos d i hi];simp
 rw[←e];exact oR h i (by simpa using hi)
theorem np (w:World)(r:Option Nat):w.grownBy w r:=⟨rfl,rfl,rfl,Nat.le_refl _,fun _ _ _=>rfl⟩
theorem aF {u v w:World}{r:Option Nat}(h:u.grownBy v r)(k:v.grownBy w r):u.grownBy w r :=
 ⟨k.os.trans h.os,k.tape.trans h.tape,k.output.trans h.output,Nat.le_trans h.size k.size,fun i hi hn=>(k.block i (Nat.lt_of_lt_of_le hi h.size) hn).trans (h.block i hi hn)⟩
theorem bH {w w':World}(r:Option Nat)(h:Below w.heap.size w w'):w.grownBy w' r:=⟨h.os,h.tape,h.output,h.size,fun k hk _=>h.block k hk⟩
theorem RowS.keep {base g c:Nat}{d:Array Int}{w w':World}(h:RowS base g c d w)(hb:Below w.heap.size w w'):RowS base g c d w':=ai hb h
theorem RowS.put {base g c n:Nat}{L:List Int}{w:World}(h:w.ownsRow base 185 3 (.slice (some ⟨g,0,none⟩) n c) n (bY L))(i:Nat)(x:Int) :
 (((w.setCell ⟨g,i*3,none⟩ (.int .i64 (sp0 x))).setCell ⟨g,i*3+1,none⟩ (.int .i64 (sp1 x))).setCell ⟨g,i*3+2,none⟩ (.int .i64 (sp2 x))).ownsRow base 185 3 (.slice (some ⟨g,0,none⟩) n c) n (bY (L.set i x)) /\
 w.grownBy (((w.setCell ⟨g,i*3,none⟩ (.int .i64 (sp0 x))).setCell ⟨g,i*3+1,none⟩ (.int .i64 (sp1 x))).setCell ⟨g,i*3+2,none⟩ (.int .i64 (sp2 x))) (some g):=by
 have s1:=World.ownsRow.stored h (i*3) (.int .i64 (sp0 x));have s2:=World.ownsRow.stored s1.1 (i*3+1) (.int .i64 (sp1 x));have s3:=World.ownsRow.stored s2.1 (i*3+2) (.int .i64 (sp2 x));rw[rd]at s3;exact⟨s3.1,aF (aF s1.2 s2.2) s3.2⟩
theorem kE (base g c n:Nat){i j:Int}(ni nj:Nat)(ei:(ni:Int)=i)(ej:(nj:Int)=j)(d:Array Int)(w:World)(hn:d.size=n)(h:RowS base g c d w)(hi:ni<n)(hj:nj<n) :
 Calls Tryz.prog 244 #[.slice (some ⟨g,0,none⟩) n c,.int .i64 i,.int .i64 j] w fun e w'=>e=.returned (.tuple #[])/\RowS base g c (Sort.swp d ni nj) w'/\w.grownBy w' (some g):=by
 subst ei ej;have i1:(ni:Int)<(n:Int):=by omega
 have j1:(nj:Int)<(n:Int):=by omega
 have HH:=ab h;have HN:=ab hn;obtain⟨X,eX⟩:∃X,d[ni]! =X:=⟨_,rfl⟩
 obtain⟨Y,eY⟩:∃Y,d[nj]! =Y:=⟨_,rfl⟩
 have hX:=h.at_ ni (by omega);have hY:=h.at_ nj (by omega);rw[eX]at hX;rw[eY]at hY;obtain⟨⟨a0,a1,a2⟩,p0,p1,p2⟩:=hX;obtain⟨⟨b0,b1,b2⟩,r0,r1,r2⟩:=hY;have P1:=RowS.put (n:=n) (by rw[←hn];exact h) ni Y;have P2:=ab (RowS.put P1.1 nj X);obtain⟨⟨q0,q1,q2⟩,-⟩:=oR P1.1 nj (by rw[List.length_set];simp;omega);have G1:=ab P1.2;have EX:=ab eX;have EY:=ab eY;generalize (d.toList.set ni Y)[nj]'_=z at *;clear h P1 eX eY hn
 go_enter Tryz.func244,Tryz.ntmps244
 go_wp2_with fail
 go_region
 go_wp2_with fail
 go_end0
 refine⟨rfl,RowS.keep ?_ (aK _),aF (aF G1.out P2.out.2) (bH _ (aK _))⟩;unfold RowS;rw[DH,Sort.size_swp,HN.out,EX.out,EY.out];exact P2.out.1
theorem fq (g c n:Nat){i j:Int}(ni nj:Nat)(ei:(ni:Int)=i)(ej:(nj:Int)=j)(x y:Int)(b:Bool)(w:World)(hi:ni<n)(hj:nj<n)
 (hx:w.cell? ⟨g,ni*3,none⟩=some (.int .i64 (sp0 x))/\w.cell? ⟨g,ni*3+1,none⟩=some (.int .i64 (sp1 x))/\w.cell? ⟨g,ni*3+2,none⟩=some (.int .i64 (sp2 x)))
 (hy:w.cell? ⟨g,nj*3,none⟩=some (.int .i64 (sp0 y))/\w.cell? ⟨g,nj*3+1,none⟩=some (.int .i64 (sp1 y))/\w.cell? ⟨g,nj*3+2,none⟩=some (.int .i64 (sp2 y))) (hb:Sort.ltInt y x=b) :
 Calls Tryz.prog 243 #[.slice (some ⟨g,0,none⟩) n c,.int .i64 i,.int .i64 j] w fun e w'=>e=.returned (.bool b)/\Below w.heap.size w w':=by
 subst ei ej;have i1:(ni:Int)<(n:Int):=by omega
 have j1:(nj:Int)<(n:Int):=by omega
 obtain⟨x0,x1,x2⟩:=hx;obtain⟨y0,y1,y2⟩:=hy;have hd:=(EE x y).trans hb;have CC:=ab fun w=>yx x y w;unfold spA at CC;have hS0:=fV (aK w) ⟨x0,x1,x2,y0,y1,y2,Below.refl _ _⟩
 go_enter Tryz.func243,Tryz.ntmps243
 go_wp2_with fail
 go_region_held3 (fun w'=>w'.cell? ⟨g,ni*3,none⟩=some (.int .i64 (sp0 x))/\w'.cell? ⟨g,ni*3+1,none⟩=some (.int .i64 (sp1 x))/\w'.cell? ⟨g,ni*3+2,none⟩=some (.int .i64 (sp2 x))/\w'.cell? ⟨g,nj*3,none⟩=some (.int .i64 (sp0 y))/\w'.cell? ⟨g,nj*3+1,none⟩=some (.int .i64 (sp1 y))/\w'.cell? ⟨g,nj*3+2,none⟩=some (.int .i64 (sp2 y))/\Below w.heap.size w w') (first | exact hS0 | assumption | exact fV (by assumption) (by assumption))
  (first | (go_at_call 245;refine(CC.out _).mono ?_;rintro e w' ⟨rfl,hb⟩))
 go_wp2;go_ret;rename_i hS;exact⟨by rw[←hd];rfl,hS.2.2.2.2.2.2⟩
theorem Ec (B o:Nat)(w:World)(v:Value)(h:w.cell? ⟨B,o,none⟩=some v):(method 389 183 (.pointer (some ⟨B,o,none⟩)) "Len").run Tryz.prog w=.ok (242,v) w:=by
 have e:(method 389 183 (.pointer (some ⟨B,o,none⟩)) "Len").run Tryz.prog w=(Sem.load Mode.plain ⟨B,o,none⟩ (fun v=>Sem.pure (242,v))).run Tryz.prog w:=by kernel_rfl
 rw[e];simp[Sem.run,h]
theorem nI (B o:Nat)(w:World)(v:Value)(h:w.cell? ⟨B,o,none⟩=some v):(method 389 183 (.pointer (some ⟨B,o,none⟩)) "Less").run Tryz.prog w=.ok (243,v) w:=by
 have e:(method 389 183 (.pointer (some ⟨B,o,none⟩)) "Less").run Tryz.prog w=(Sem.load Mode.plain ⟨B,o,none⟩ (fun v=>Sem.pure (243,v))).run Tryz.prog w:=by kernel_rfl
 rw[e];simp[Sem.run,h]
theorem kt (B o:Nat)(w:World)(v:Value)(h:w.cell? ⟨B,o,none⟩=some v):(method 389 183 (.pointer (some ⟨B,o,none⟩)) "Swap").run Tryz.prog w=.ok (244,v) w:=by
 have e:(method 389 183 (.pointer (some ⟨B,o,none⟩)) "Swap").run Tryz.prog w=(Sem.load Mode.plain ⟨B,o,none⟩ (fun v=>Sem.pure (244,v))).run Tryz.prog w:=by kernel_rfl
 rw[e];simp[Sem.run,h]
theorem Ib (B o:Nat)(w:World):(method 389 183 (.pointer (some ⟨B,o,none⟩)) "Push").run Tryz.prog w=.ok (255,.pointer (some ⟨B,o,none⟩)) w:=by kernel_rfl
theorem Jo (B o:Nat)(w:World):(method 389 183 (.pointer (some ⟨B,o,none⟩)) "Pop").run Tryz.prog w=.ok (254,.pointer (some ⟨B,o,none⟩)) w:=by kernel_rfl
theorem Eg (v:Value)(n:Nat)(hv:∃p c,v=.slice p n c)(w:World):Calls Tryz.prog 242 #[v] w fun e w'=>e=.returned (.int .i64 (n:Int))/\w'=w:=by
 obtain⟨p,c,rfl⟩:=hv
 go_enter Tryz.func242,Tryz.ntmps242
 go_wp2;go_ret;exact⟨rfl,rfl⟩
theorem Dl {d:Array Int}{hi r:Nat}(h:hi<=2*r+1):Sort.siftDown Sort.ltInt hi 0 r d=d:=Sort.sd_end _ _ h
theorem Is {d:Array Int}{hi r:Nat}(h:2*r+2<hi)(h1:Sort.ltInt d[2*r+1]! d[2*r+2]! =true)(h2:Sort.ltInt d[r]! d[2*r+2]! =false):Sort.siftDown Sort.ltInt hi 0 r d=d:=by
 have:=Sort.sd_right_stop (lt:=Sort.ltInt) (hi:=hi) (F:=0) (root:=r) d h;simp only[Nat.zero_add]at this;exact this h1 h2
theorem Ir {d:Array Int}{hi r:Nat}(h:2*r+2<hi)(h1:Sort.ltInt d[2*r+1]! d[2*r+2]! =true)(h2:Sort.ltInt d[r]! d[2*r+2]! =true):Sort.siftDown Sort.ltInt hi 0 r d=Sort.siftDown Sort.ltInt hi 0 (2*r+2) (Sort.swp d r (2*r+2)):=by
 have:=Sort.sd_right_go (lt:=Sort.ltInt) (hi:=hi) (F:=0) (root:=r) d h;simp only[Nat.zero_add]at this;exact this h1 h2
theorem Ae {d:Array Int}{hi r:Nat}(h:2*r+1<hi)(h1:2*r+2<hi->Sort.ltInt d[2*r+1]! d[2*r+2]! =false)(h2:Sort.ltInt d[r]! d[2*r+1]! =false):Sort.siftDown Sort.ltInt hi 0 r d=d:=by
 have:=Sort.sd_left_stop (lt:=Sort.ltInt) (hi:=hi) (F:=0) (root:=r) d h;simp only[Nat.zero_add]at this;exact this h1 h2
theorem Ad {d:Array Int}{hi r:Nat}(h:2*r+1<hi)(h1:2*r+2<hi->Sort.ltInt d[2*r+1]! d[2*r+2]! =false)(h2:Sort.ltInt d[r]! d[2*r+1]! =true):Sort.siftDown Sort.ltInt hi 0 r d=Sort.siftDown Sort.ltInt hi 0 (2*r+1) (Sort.swp d r (2*r+1)):=by
 have:=Sort.sd_left_go (lt:=Sort.ltInt) (hi:=hi) (F:=0) (root:=r) d h;simp only[Nat.zero_add]at this;exact this h1 h2
theorem Ia (B o base g c n i hi:Nat)(d:Array Int)(hn:d.size=n)(w:World)(hB:w.cell? ⟨B,o,none⟩=some (.slice (some ⟨g,0,none⟩) n c))(hne:B≠g)(hH:RowS base g c d w)(hhi:hi<=n)(hsz:n<=1000000)(hi0:i<=hi) :
 Calls Tryz.prog 161 #[.iface 183 (.pointer (some ⟨B,o,none⟩)),.int .i64 i,.int .i64 hi] w fun e w'=>(∃b,e=.returned (.bool b))/\RowS base g c (Sort.siftDown Sort.ltInt hi 0 i d) w'/\w.grownBy w' (some g):=by
 have H0:=ab hH;have HN:=ab hn;have HB:=ab hB;clear hH hn hB
 go_enter Tryz.func161,Tryz.ntmps161
 go_wp2_with fail;go_loopw [7] (fun v7 wr=>∃(r:Nat) (dk:Array Int),v7=.int .i64 r/\r<=hi/\Hid (RowS base g c dk wr)/\Hid (w.grownBy wr (some g))/\Hid (dk.size=n)/\Hid (Sort.siftDown Sort.ltInt hi 0 r dk=Sort.siftDown Sort.ltInt hi 0 i d)) (fun v7 _=>hi-(intOf v7).toNat)
 case atStart=>exact⟨i,d,rfl,hi0,H0,ab (np _ _),HN,ab rfl⟩
 case round =>
  obtain⟨r,dk,rfl,hr,RO,GR,ND,ED⟩:=hrel;have cB:=GR.out.cell HB.out (by simpa using hne);by_cases h0:hi<=2*r+1
  · have e0:(hi:Int)<=2*(r:Int)+1:=by omega
    have HR:Hid (RowS base g c (Sort.siftDown Sort.ltInt hi 0 i d) wr/\w.grownBy wr (some g)):=ab ⟨by rw[←ED.out,Dl h0];exact RO.out,GR.out⟩;clear RO GR ED;go_wp2;go_ret;exact⟨⟨_,rfl⟩,HR.out⟩
  · have e0:decide ((hi:Int)<=2*(r:Int)+1)=false:=df (by omega);have e1:decide (2*(r:Int)+1<0)=false:=df (by omega);have mL:=nI B o wr _ cB;by_cases h1:2*r+2<hi
    · have e2:2*(r:Int)+1+1<(hi:Int):=by omega
      cases hL:Sort.ltInt dk[2*r+1]! dk[2*r+2]!
      · have LA:=ab (fq g c n (2*r+2) (2*r+1) (i:=2*(r:Int)+1+1) (j:=2*(r:Int)+1) (by omega) (by omega) dk[2*r+2]! dk[2*r+1]! false wr (by omega) (by omega) (RO.out.at_ (2*r+2) (by have:=ND.out;omega)).1 (RO.out.at_ (2*r+1) (by have:=ND.out;omega)).1 hL);have FL:=ab hL;clear hL;go_wp2_with fail;refine LA.out.mono ?_;rintro e w2 ⟨rfl,b2⟩;replace cB:=aa b2 cB;replace RO:=ab (RO.out.keep b2);replace GR:=ab (aF GR.out (bH _ b2));clear LA mL b2;have mL:=nI B o w2 _ cB;go_wp2_with fail;cases hM:Sort.ltInt dk[r]! dk[2*r+1]!
        · have LB:=ab (fq g c n (2*r+1) (r) (i:=2*(r:Int)+1) (j:=(r:Int)) (by omega) rfl dk[2*r+1]! dk[r]! false w2 (by omega) (by omega) (RO.out.at_ (2*r+1) (by have:=ND.out;omega)).1 (RO.out.at_ (r) (by have:=ND.out;omega)).1 hM);have ST:Hid (Sort.siftDown Sort.ltInt hi 0 r dk=dk):=ab (Ae (by omega) (fun _=>FL.out) hM);clear hM;refine LB.out.mono ?_;clear LB;rintro e w3 ⟨rfl,b3⟩;have HR:Hid (RowS base g c (Sort.siftDown Sort.ltInt hi 0 i d) w3/\w.grownBy w3 (some g)):=ab ⟨by rw[←ED.out,ST.out];exact RO.out.keep b3,aF GR.out (bH _ b3)⟩;clear ST RO GR b3;go_wp2;go_ret;exact⟨⟨_,rfl⟩,HR.out⟩
        · have LB:=ab (fq g c n (2*r+1) (r) (i:=2*(r:Int)+1) (j:=(r:Int)) (by omega) rfl dk[2*r+1]! dk[r]! true w2 (by omega) (by omega) (RO.out.at_ (2*r+1) (by have:=ND.out;omega)).1 (RO.out.at_ (r) (by have:=ND.out;omega)).1 hM);have GO:Hid (Sort.siftDown Sort.ltInt hi 0 r dk=Sort.siftDown Sort.ltInt hi 0 (2*r+1) (Sort.swp dk r (2*r+1))):=ab (Ad (by omega) (fun _=>FL.out) hM);clear hM;refine LB.out.mono ?_;clear LB;rintro e w3 ⟨rfl,b3⟩;have c3:=aa b3 cB;have mS:=kt B o w3 _ c3;have RO3:=ab (RO.out.keep b3);have GR3:=ab (aF GR.out (bH _ b3));have SW:=ab (kE base g c n (i:=(r:Int)) (j:=2*(r:Int)+1) r (2*r+1) rfl (by omega) dk w3 ND.out RO3.out (by omega) (by omega));clear RO GR cB b3;go_wp2_with fail;refine SW.out.mono ?_;rintro e w5 ⟨rfl,h5,g5⟩;have RO5:=ab h5;have GR5:=ab (aF GR3.out g5);have ND5:Hid ((Sort.swp dk r (2*r+1)).size=n):=ab (by rw[Sort.size_swp];exact ND.out);have ED5:=ab (GO.out.symm.trans ED.out);clear SW mS RO3 GR3 h5 g5 c3 GO;go_wp2_with fail;go_roundw
          case rel=>exact⟨2*r+1,_,by congr 1 <;>omega,by omega,RO5,GR5,ND5,ED5⟩
          case measure=>simp[intOf];omega
      · have LA:=ab (fq g c n (2*r+2) (2*r+1) (i:=2*(r:Int)+1+1) (j:=2*(r:Int)+1) (by omega) (by omega) dk[2*r+2]! dk[2*r+1]! true wr (by omega) (by omega) (RO.out.at_ (2*r+2) (by have:=ND.out;omega)).1 (RO.out.at_ (2*r+1) (by have:=ND.out;omega)).1 hL);have FL:=ab hL;clear hL;go_wp2_with fail;refine LA.out.mono ?_;rintro e w2 ⟨rfl,b2⟩;replace cB:=aa b2 cB;replace RO:=ab (RO.out.keep b2);replace GR:=ab (aF GR.out (bH _ b2));clear LA mL b2;have mL:=nI B o w2 _ cB;go_wp2_with fail;cases hM:Sort.ltInt dk[r]! dk[2*r+2]!
        · have LB:=ab (fq g c n (2*r+2) (r) (i:=2*(r:Int)+1+1) (j:=(r:Int)) (by omega) rfl dk[2*r+2]! dk[r]! false w2 (by omega) (by omega) (RO.out.at_ (2*r+2) (by have:=ND.out;omega)).1 (RO.out.at_ (r) (by have:=ND.out;omega)).1 hM);have ST:Hid (Sort.siftDown Sort.ltInt hi 0 r dk=dk):=ab (Is h1 FL.out hM);clear hM;refine LB.out.mono ?_;clear LB;rintro e w3 ⟨rfl,b3⟩;have HR:Hid (RowS base g c (Sort.siftDown Sort.ltInt hi 0 i d) w3/\w.grownBy w3 (some g)):=ab ⟨by rw[←ED.out,ST.out];exact RO.out.keep b3,aF GR.out (bH _ b3)⟩;clear ST RO GR b3;go_wp2;go_ret;exact⟨⟨_,rfl⟩,HR.out⟩
        · have LB:=ab (fq g c n (2*r+2) (r) (i:=2*(r:Int)+1+1) (j:=(r:Int)) (by omega) rfl dk[2*r+2]! dk[r]! true w2 (by omega) (by omega) (RO.out.at_ (2*r+2) (by have:=ND.out;omega)).1 (RO.out.at_ (r) (by have:=ND.out;omega)).1 hM);have GO:Hid (Sort.siftDown Sort.ltInt hi 0 r dk=Sort.siftDown Sort.ltInt hi 0 (2*r+2) (Sort.swp dk r (2*r+2))):=ab (Ir h1 FL.out hM);clear hM;refine LB.out.mono ?_;clear LB;rintro e w3 ⟨rfl,b3⟩;have c3:=aa b3 cB;have mS:=kt B o w3 _ c3;have RO3:=ab (RO.out.keep b3);have GR3:=ab (aF GR.out (bH _ b3));have SW:=ab (kE base g c n (i:=(r:Int)) (j:=2*(r:Int)+1+1) r (2*r+2) rfl (by omega) dk w3 ND.out RO3.out (by omega) (by omega));clear RO GR cB b3;go_wp2_with fail;refine SW.out.mono ?_;rintro e w5 ⟨rfl,h5,g5⟩;have RO5:=ab h5;have GR5:=ab (aF GR3.out g5);have ND5:Hid ((Sort.swp dk r (2*r+2)).size=n):=ab (by rw[Sort.size_swp];exact ND.out);have ED5:=ab (GO.out.symm.trans ED.out);clear SW mS RO3 GR3 h5 g5 c3 GO;go_wp2_with fail;go_roundw
          case rel=>exact⟨2*r+2,_,by congr 1 <;>omega,by omega,RO5,GR5,ND5,ED5⟩
          case measure=>simp[intOf];omega
    · have e2:decide (2*(r:Int)+1+1<(hi:Int))=false:=df (by omega);go_wp2_with fail;cases hM:Sort.ltInt dk[r]! dk[2*r+1]!
      · have LB:=ab (fq g c n (2*r+1) (r) (i:=2*(r:Int)+1) (j:=(r:Int)) (by omega) rfl dk[2*r+1]! dk[r]! false wr (by omega) (by omega) (RO.out.at_ (2*r+1) (by have:=ND.out;omega)).1 (RO.out.at_ (r) (by have:=ND.out;omega)).1 hM);have ST:Hid (Sort.siftDown Sort.ltInt hi 0 r dk=dk):=ab (Ae (by omega) (fun h=>absurd h h1) hM);clear hM;refine LB.out.mono ?_;clear LB;rintro e w3 ⟨rfl,b3⟩;have HR:Hid (RowS base g c (Sort.siftDown Sort.ltInt hi 0 i d) w3/\w.grownBy w3 (some g)):=ab ⟨by rw[←ED.out,ST.out];exact RO.out.keep b3,aF GR.out (bH _ b3)⟩;clear ST RO GR b3;go_wp2;go_ret;exact⟨⟨_,rfl⟩,HR.out⟩
      · have LB:=ab (fq g c n (2*r+1) (r) (i:=2*(r:Int)+1) (j:=(r:Int)) (by omega) rfl dk[2*r+1]! dk[r]! true wr (by omega) (by omega) (RO.out.at_ (2*r+1) (by have:=ND.out;omega)).1 (RO.out.at_ (r) (by have:=ND.out;omega)).1 hM);have GO:Hid (Sort.siftDown Sort.ltInt hi 0 r dk=Sort.siftDown Sort.ltInt hi 0 (2*r+1) (Sort.swp dk r (2*r+1))):=ab (Ad (by omega) (fun h=>absurd h h1) hM);clear hM;refine LB.out.mono ?_;clear LB;rintro e w3 ⟨rfl,b3⟩;have c3:=aa b3 cB;have mS:=kt B o w3 _ c3;have RO3:=ab (RO.out.keep b3);have GR3:=ab (aF GR.out (bH _ b3));have SW:=ab (kE base g c n (i:=(r:Int)) (j:=2*(r:Int)+1) r (2*r+1) rfl (by omega) dk w3 ND.out RO3.out (by omega) (by omega));clear RO GR cB b3;go_wp2_with fail;refine SW.out.mono ?_;rintro e w5 ⟨rfl,h5,g5⟩;have RO5:=ab h5;have GR5:=ab (aF GR3.out g5);have ND5:Hid ((Sort.swp dk r (2*r+1)).size=n):=ab (by rw[Sort.size_swp];exact ND.out);have ED5:=ab (GO.out.symm.trans ED.out);clear SW mS RO3 GR3 h5 g5 c3 GO;go_wp2_with fail;go_roundw
        case rel=>exact⟨2*r+1,_,by congr 1 <;>omega,by omega,RO5,GR5,ND5,ED5⟩
        case measure=>simp[intOf];omega
theorem wM (j:Nat):((j:Int)-1).tdiv 2=(((j-1) / 2:Nat):Int):=by
 by_cases h:j=0
 · subst h;decide
 · rw[Int.tdiv_eq_ediv_of_nonneg (by omega)];omega
theorem JU (B o base g c n j:Nat)(d:Array Int)(hn:d.size=n)(w:World)(hB:w.cell? ⟨B,o,none⟩=some (.slice (some ⟨g,0,none⟩) n c))(hne:B≠g)(hH:RowS base g c d w)(hj:j<n)(hsz:n<=1000000) :
 Calls Tryz.prog 164 #[.iface 183 (.pointer (some ⟨B,o,none⟩)),.int .i64 j] w fun e w'=>e=.returned (.tuple #[])/\RowS base g c (aN j d) w'/\w.grownBy w' (some g):=by
 have H0:=ab hH;have HN:=ab hn;have HB:=ab hB;clear hH hn hB
 go_enter Tryz.func164,Tryz.ntmps164
 go_wp2_with fail;go_loopw [1] (fun v1 wr=>∃(k:Nat) (dk:Array Int),v1=.int .i64 k/\k<n/\Hid (RowS base g c dk wr)/\Hid (w.grownBy wr (some g))/\Hid (dk.size=n)/\Hid (aN k dk=aN j d)) (fun v1 _=>(intOf v1).toNat)
 case atStart=>exact⟨j,d,rfl,hj,H0,ab (np _ _),HN,ab rfl⟩
 case round =>
  obtain⟨k,dk,rfl,hk,RO,GR,ND,ED⟩:=hrel;have cB:=GR.out.cell HB.out (by simpa using hne);have et:=wM k;obtain⟨m,hm⟩:∃m,(k-1) / 2=m:=⟨_,rfl⟩
  rw[hm]at et;by_cases h0:k=0
  · have e0:((m:Int) == (k:Int))=true:=by simp;omega
    have hmk:m<=k:=by omega
    have hmk2:(m:Int)<=1000000:=by omega
    have HR:Hid (RowS base g c (aN j d) wr/\w.grownBy wr (some g)):=ab ⟨by rw[←ED.out,h0,iY];exact RO.out,GR.out⟩;clear RO GR ED h0 hm;go_wp2
    go_end0
    exact⟨rfl,HR.out⟩
  · have e0:((m:Int) == (k:Int))=false:=by simp;omega
    have hmk:m<k:=by omega
    have HM:=ab hm;clear hm;have mL:=nI B o wr _ cB;go_wp2_with fail;cases hM:Sort.ltInt dk[m]! dk[k]!
    · have LB:=ab (fq g c n k m (i:=(k:Int)) (j:=(m:Int)) rfl rfl dk[k]! dk[m]! false wr (by omega) (by omega) (RO.out.at_ k (by have:=ND.out;omega)).1 (RO.out.at_ m (by have:=ND.out;omega)).1 hM);have ST:Hid (aN k dk=dk):=ab (iX (by rw[HM.out];exact hM));clear hM;refine LB.out.mono ?_;clear LB;rintro e w3 ⟨rfl,b3⟩;have HR:Hid (RowS base g c (aN j d) w3/\w.grownBy w3 (some g)):=ab ⟨by rw[←ED.out,ST.out];exact RO.out.keep b3,aF GR.out (bH _ b3)⟩;clear ST RO GR b3;go_wp2
      go_end0
      exact⟨rfl,HR.out⟩
    · have LB:=ab (fq g c n k m (i:=(k:Int)) (j:=(m:Int)) rfl rfl dk[k]! dk[m]! true wr (by omega) (by omega) (RO.out.at_ k (by have:=ND.out;omega)).1 (RO.out.at_ m (by have:=ND.out;omega)).1 hM);have GO:Hid (aN k dk=aN m (Sort.swp dk m k)):=ab (by rw[kJ (by omega) (by rw[HM.out];exact hM),HM.out]);clear hM;refine LB.out.mono ?_;clear LB;rintro e w3 ⟨rfl,b3⟩;have c3:=aa b3 cB;have mS:=kt B o w3 _ c3;have RO3:=ab (RO.out.keep b3);have GR3:=ab (aF GR.out (bH _ b3));have SW:=ab (kE base g c n (i:=(m:Int)) (j:=(k:Int)) m k rfl rfl dk w3 ND.out RO3.out (by omega) (by omega));clear RO GR cB b3;go_wp2_with fail;refine SW.out.mono ?_;rintro e w5 ⟨rfl,h5,g5⟩;have RO5:=ab h5;have GR5:=ab (aF GR3.out g5);have ND5:Hid ((Sort.swp dk m k).size=n):=ab (by rw[Sort.size_swp];exact ND.out);have ED5:=ab (GO.out.symm.trans ED.out);clear SW mS RO3 GR3 h5 g5 c3 GO;go_wp2_with fail;go_roundw
      case rel=>exact⟨m,_,rfl,by omega,RO5,GR5,ND5,ED5⟩
      case measure=>simp[intOf];omega
structure ButQ (B o:Nat) (r:Option Nat) (w w':World):Prop where
 os:w'.os=w.os
 tape:w'.tape=w.tape
 output:w'.output=w.output
 size:w.heap.size<=w'.heap.size
 block:∀k,k<w.heap.size->k≠B->r≠some k->w'.heap[k]?=w.heap[k]?
 cell:∀k,k≠o->w'.cell? ⟨B,k,none⟩=w.cell? ⟨B,k,none⟩
 froz:∀k,w'.frozen? ⟨B,k,none⟩=w.frozen? ⟨B,k,none⟩
theorem ButQ.refl (B o:Nat)(r:Option Nat)(w:World):ButQ B o r w w:=⟨rfl,rfl,rfl,Nat.le_refl _,fun _ _ _ _=>rfl,fun _ _=>rfl,fun _=>rfl⟩
theorem ButQ.trans {B o:Nat}{r r':Option Nat}{u v w:World}(h:ButQ B o r u v)(k:ButQ B o r' v w)(hr:r'=r∨∀x,r'=some x->u.heap.size<=x):ButQ B o r u w :=
 ⟨k.os.trans h.os,k.tape.trans h.tape,k.output.trans h.output,Nat.le_trans h.size k.size,fun i hi hB hn=>by
   refine(k.block i (Nat.lt_of_lt_of_le hi h.size) hB fun e=>?_).trans (h.block i hi hB hn);rcases hr with hr | hr
   · exact hn (by rw[←hr,e])
   · have:=hr i e;omega,fun i hi=>(k.cell i hi).trans (h.cell i hi),fun i=>(k.froz i).trans (h.froz i)⟩
theorem ButQ.grown {B o:Nat}{r:Option Nat}{w w':World}(hg:w.grownBy w' r)(hB:B<w.heap.size)(hne:r≠some B):ButQ B o r w w':=by
 have hb:=hg.block B hB (fun e=>hne e.symm);exact⟨hg.os,hg.tape,hg.output,hg.size,fun k hk _ hn=>hg.block k hk (fun e=>hn e.symm),fun _ _=>World.cell?_of_block hb,fun _=>World.frozen?_of_block hb⟩
theorem ButQ.of_below {B o:Nat}{r:Option Nat}{w w':World}(h:Below w.heap.size w w')(hB:B<w.heap.size):ButQ B o r w w' :=
 ⟨h.os,h.tape,h.output,h.size,fun k hk _ _=>h.block k hk,fun _ _=>World.cell?_of_block (h.block B hB),fun _=>World.frozen?_of_block (h.block B hB)⟩
theorem ButQ.set {B o:Nat}{r:Option Nat}{u w:World}(h:ButQ B o r u w)(v:Value):ButQ B o r u (w.setCell ⟨B,o,none⟩ v):=by
 refine⟨h.os,h.tape,h.output,by simpa using h.size,fun k hk hB hn=>?_,fun k hk=>?_,fun k=>by rw[World.frozen?_setCell];exact h.froz k⟩
 · rw[heap_setCell_other _ _ _ _ (fun e=>hB e)];exact h.block k hk hB hn
 · rw[World.cell?_setCell_other _ _ _ _ (fun e=>by injection e with _ e2 _;exact hk e2.symm)];exact h.cell k hk
theorem ButQ.cellK {B o:Nat}{r:Option Nat}{w w':World}(h:ButQ B o r w w'){p:Addr}{v:Value}(hc:w.cell? p=some v)(h1:p.block≠B)(h2:r≠some p.block):w'.cell? p=some v :=
 (World.cell?_of_block (h.block p.block (World.block_lt_of_cell? _ _ hc) h1 h2)).trans hc
theorem ButQ.cellB {B o:Nat}{r:Option Nat}{w w':World}(h:ButQ B o r w w'){k:Nat}{v:Value}(hc:w.cell? ⟨B,k,none⟩=some v)(h1:k≠o):w'.cell? ⟨B,k,none⟩=some v:=(h.cell k h1).trans hc
theorem ButQ.frozK {B o:Nat}{r:Option Nat}{w w':World}(h:ButQ B o r w w'){p:Addr}(hl:p.block<w.heap.size)(h1:p.block≠B)(h2:r≠some p.block):w'.frozen? p=w.frozen? p :=
 World.frozen?_of_block (h.block p.block hl h1 h2)
theorem ButQ.below {B o G:Nat}{r:Option Nat}{w w':World}(h:ButQ B o r w w')(ha:G<=B)(hr:∀x,r=some x->G<=x)(hG:G<=w.heap.size):Below G w w' :=
 ⟨h.os,h.tape,h.output,h.size,fun k hk=>h.block k (by omega) (by omega) (fun e=>by have:=hr k e;omega)⟩
theorem ButQ.own {B o:Nat}{r:Option Nat}{w w':World}(h:ButQ B o r w w'){base:Nat}{e:TypeId}{size:Nat}{v:Value}{n:Nat}{xs:List Value}(ho:w.ownsRow base e size v n xs)(h1:v.ownBlock≠some B)(h2:∀x,r=some x->v.ownBlock≠some x):w'.ownsRow base e size v n xs:=by
 refine⟨ho.1,?_⟩;rcases ho.2 with hn | ⟨g,cap,cur,rfl,hb,hgg,rest⟩
 · exact .inl hn
 · refine .inr ⟨g,cap,cur,rfl,hb,?_,rest⟩;rw[h.block g (Array.getElem?_eq_some_iff.1 hgg).1 (fun e=>h1 (by rw[e];rfl)) (fun e=>h2 g e rfl)];exact hgg
structure HatQ (w:World) (base B o:Nat) (v:Value) (L:List Int):Prop where
 cell:w.cell? ⟨B,o,none⟩=some v
 frz:w.frozen? ⟨B,o,none⟩=false
 ne:v.ownBlock≠some B
 own:w.ownsRow base 185 3 v L.length (bY L)
theorem HatQ.lt {w:World}{base B o:Nat}{v:Value}{L:List Int}(h:HatQ w base B o v L):B<w.heap.size:=World.block_lt_of_cell? _ _ h.cell
theorem HatQ.form {w:World}{base B o:Nat}{v:Value}{L:List Int}(h:HatQ w base B o v L)(hn:0<L.length) :
 ∃g c,v=.slice (some ⟨g,0,none⟩) L.length c/\base<=g/\B≠g/\RowS base g c L.toArray w/\L.length<=c/\g<w.heap.size:=by
 obtain⟨g,c,rfl,hb,hl⟩:=World.ownsRow.form h.own hn;refine⟨g,c,rfl,hb,fun e=>h.ne (by rw[e];rfl),by unfold RowS;simpa using h.own,?_,hl⟩;rcases h.own.2 with⟨e,_⟩ | ⟨g2,c2,cur,e,_,_,h1,_⟩
 · cases e
 · simp only[Value.slice.injEq,true_and]at e;rw[e.2];exact h1
theorem HatQ.any {w:World}{base B o:Nat}{v:Value}{L:List Int}(h:HatQ w base B o v L):∃p c,v=.slice p L.length c:=by
 rcases h.own.2 with⟨e,e0⟩ | ⟨g2,c2,cur,e,_⟩
 · exact⟨none,0,by rw[e,e0]⟩
 · exact⟨_,_,e⟩
theorem HatQ.keep {w w':World}{base B o:Nat}{v:Value}{L:List Int}(h:HatQ w base B o v L)(hb:Below w.heap.size w w'):HatQ w' base B o v L :=
 ⟨aa hb h.cell,ac hb h.cell h.frz,h.ne,ai hb h.own⟩
theorem tz {w:World}{base g c n m:Nat}{L:List Int}(ho:w.ownsRow base 185 3 (.slice (some ⟨g,0,none⟩) n c) n (bY L))(hm:m<=n):w.ownsRow base 185 3 (.slice (some ⟨g,0,none⟩) m c) m (bY (L.take m)):=by
 have hl:L.length*3=n*3:=by rw[←jv];exact ho.1
 rcases ho.2 with⟨e,_⟩ | ⟨g2,c2,cur,e,hb,hgg,h1,h2,h3,h4⟩
 · cases e
 simp only[Value.slice.injEq,Option.some.injEq,Addr.mk.injEq,and_true,true_and]at e;obtain⟨rfl,rfl⟩:=e;refine⟨by rw[jv,List.length_take];omega,.inr ⟨g,c,cur,rfl,hb,hgg,by omega,h2,h3,?_⟩⟩;rw[←yY,←h4,List.take_take,Nat.min_eq_left (by omega)]
theorem Jv (base B o g c m:Nat)(L:List Int)(x:Int)(hL:L.length=m+1)(w:World)(h:HatQ w base B o (.slice (some ⟨g,0,none⟩) (m+1) c) L)(hx:L[m]'(by omega)=x)(hsz:m<=1000000) :
 Calls Tryz.prog 254 #[.pointer (some ⟨B,o,none⟩)] w fun e w'=>e=.returned (.iface 185 (.agg #[.int .i64 (sp0 x),.int .i64 (sp1 x),.int .i64 (sp2 x)]))/\HatQ w' base B o (.slice (some ⟨g,0,none⟩) m c) (L.take m)/\ButQ B o (some g) w w':=by
 have hO:=h.own;rw[hL]at hO;obtain⟨⟨x0,x1,x2⟩,-⟩:=oR hO m (by omega);rw[hx]at x0 x1 x2;have hB:=h.cell;have hF:=h.frz;have hne:B≠g:=fun e=>h.ne (by rw[e];rfl);have hlt:=h.lt;have hle:m+1<=c:=by
  rcases hO.2 with⟨e,_⟩ | ⟨g2,c2,cur,e,_,_,h1,_⟩
  · cases e
  · simp only[Value.slice.injEq,true_and]at e;rw[e.2];exact h1
 have HO:=ab hO;have HL:=ab hL;clear h hL hx hO;generalize sp0 x=s0 at *;generalize sp1 x=s1 at *;generalize sp2 x=s2 at *;have e1:((m+1:Nat):Int)-1=(m:Int):=by omega
 go_enter Tryz.func254,Tryz.ntmps254
 go_wp2;go_ret;have al:=ag (w.setCell ⟨B,o,none⟩ (.slice (some ⟨g,0,none⟩) m c)) (.cells #[.int .i64 s0,.int .i64 s1,.int .i64 s2] 185);have hl:(L.take m).length=m:=by rw[List.length_take];have:=HL.out;omega
 have BQ:=((ButQ.refl B o (some g) w).set (.slice (some ⟨g,0,none⟩) m c))
 have H1:HatQ (w.setCell ⟨B,o,none⟩ (.slice (some ⟨g,0,none⟩) m c)) base B o (.slice (some ⟨g,0,none⟩) m c) (L.take m):=by
  refine⟨ay hB,by rw[World.frozen?_setCell];exact hF,fun e=>hne (by simpa[Value.ownBlock]using e.symm),?_⟩;rw[hl];exact(((ButQ.refl B o none _).set _).own (tz HO.out (m:=m) (by omega)) (fun e=>hne (by simpa[Value.ownBlock]using e.symm)) (fun x e=>by cases e))
 exact⟨rfl,H1.keep al,BQ.trans (ButQ.of_below al (by simpa using hlt)) (.inl rfl)⟩
theorem zL (base B o m:Nat)(v:Value)(L:List Int)(hL:L.length=m+1)(w:World)(h:HatQ w base B o v L)(hp:Hp (m+1) L.toArray)(hsz:m+1<=1000000) :
 Calls Tryz.prog 179 #[.iface 183 (.pointer (some ⟨B,o,none⟩))] w fun e w'=>∃(x:Int) (L':List Int) (v':Value),e=.returned (.iface 185 (.agg #[.int .i64 (sp0 x),.int .i64 (sp1 x),.int .i64 (sp2 x)]))/\L[0]?=some x/\L.Perm (x :: L')/\(∀y∈L',y<=x)/\L'.length=m/\Hp m L'.toArray/\HatQ w' base B o v' L'/\v'.ownBlock=v.ownBlock/\ButQ B o v.ownBlock w w':=by
 have hs:L.toArray.size=m+1:=by simp[hL]
 have P:=zc hp hs;have hmax:=ns hp hs;obtain⟨x,hx⟩:∃x,L.toArray[0]! =x:=⟨_,rfl⟩
 have hx0:L[0]?=some x:=by rw[←hx,getElem!_pos _ 0 (by omega),List.getElem?_eq_getElem (by omega)];simp
 rw[hx]at P hmax;clear hx;obtain⟨g,c,rfl,hbg,hne,hR,hle,hgl⟩:=h.form (by omega);have hB:=h.cell;have hlt:=h.lt;rw[hL]at hB;have mN:=Ec B o w _ hB;have mS:=kt B o w _ hB;have SW:=ab (kE base g c (m+1) (i:=0) (j:=(m:Int)) 0 m rfl rfl L.toArray w hs hR (by omega) (by omega));have HH:=ab h;have HL:=ab hL;have HP:=ab P;have HM:=ab hmax;have HX:=ab hx0;have e1:((m+1:Nat):Int)-1=(m:Int):=by omega
 clear h hL hp P hmax hR hs hx0
 go_enter Tryz.func179,Tryz.ntmps179
 go_wp2_with fail;refine(Eg _ (m+1) ⟨_,_,rfl⟩ _).mono ?_;rintro e w0 ⟨rfl,rfl⟩;go_wp2_with fail;refine SW.out.mono ?_;rintro e w1 ⟨rfl,h1,g1⟩;have cB1:=g1.cell hB (by simpa using hne);have hs1:(Sort.swp L.toArray 0 m).size=m+1:=by rw[Sort.size_swp];simp[HL.out]
 have DN:=ab (Ia B o base g c (m+1) 0 m (Sort.swp L.toArray 0 m) hs1 w1 cB1 hne h1 (by omega) hsz (Nat.zero_le _));have G1:=ab g1;clear SW h1 mN mS g1 hs1;go_wp2_with fail;refine DN.out.mono ?_;rintro e w2 ⟨⟨b,rfl⟩,h2,g2⟩;have G2:=ab (aF G1.out g2);have cB2:=G2.out.cell hB (by simpa using hne);have fB2:w2.frozen? ⟨B,o,none⟩=false:=(World.frozen?_of_block (G2.out.block B hlt (by simpa using hne))).trans HH.out.frz;have hD2:(bT m L.toArray).toList.length=m+1:=by simp[HP.out.1]
 have H2:HatQ w2 base B o (.slice (some ⟨g,0,none⟩) (m+1) c) (bT m L.toArray).toList:=by
  refine⟨cB2,fB2,HH.out.ne,?_⟩;have h3:RowS base g c (bT m L.toArray) w2:=h2;unfold RowS at h3;rw[HP.out.1]at h3;rw[hD2];exact h3
 have PO:=ab (Jv base B o g c m (bT m L.toArray).toList x hD2 w2 H2 (by have:=HP.out.2.1;rw[getElem!_pos _ m (by have:=HP.out.1;omega)]at this;simpa using this) (by omega));have mP:=Jo B o w2;clear DN h2 g2 H2 G1 cB1 hD2;go_wp2_with fail;refine PO.out.mono ?_;rintro e w3 ⟨rfl,h3,b3⟩;have H3:=ab h3;have BQ:=ab ((ButQ.grown (o:=o) G2.out hlt (by simpa using fun e=>hne e.symm)).trans b3 (.inl rfl));clear PO mP h3 b3 G2;go_wp2;go_ret;exact⟨x,_,_,rfl,HX.out,HP.out.2.2.2.1,fun y hy=>HM.out y (HP.out.2.2.2.1.mem_iff.2 (List.mem_cons_of_mem _ hy)),HP.out.2.2.2.2,HP.out.2.2.1,H3.out,rfl,BQ.out⟩
end Go.Proofs.YtbnlhdnnenahfaaGreatDoor
