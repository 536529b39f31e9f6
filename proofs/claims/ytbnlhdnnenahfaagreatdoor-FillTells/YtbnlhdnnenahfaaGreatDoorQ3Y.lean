/-
  What the texts HNext, HPush, QNear, QPut say, so far as this seat's proofs need it.
-/
import Derived.Test.YtbnlhdnnenahfaaGreatDoorQ2Y
set_option maxHeartbeats 8000000
set_option maxRecDepth 100000
namespace Go.Proofs.YtbnlhdnnenahfaaGreatDoor
open Go.RowKit
def oy (w:World)(p:Addr):Nat:=match w.cell? p with
 | some (.slice _ n _)=>n
 | _=>0
theorem mW {w:World}{p:Addr}{q:Option Addr}{n c:Nat}(h:w.cell? p=some (.slice q n c)):oy w p=n:=by unfold oy;rw[h]
theorem uc (a b c:Int)(w:World):(Instr.typeAssert (.iface 185 (.agg #[.int .i64 a,.int .i64 b,.int .i64 c])) 20 185 false).run Tryz.prog w=.ok (.agg #[.int .i64 a,.int .i64 b,.int .i64 c]) w:=by kernel_rfl
theorem Hx {L:List Int}{x:Int}(h:Hp L.length L.toArray)(h0:L[0]?=some x):∀y∈L,y<=x:=fun y hy=>by
 have h1:0<L.length:=by
  cases L with
  | nil=>simp at h0
  | cons _ _=>simp
 have:=ns h (by simp) y (by simpa using hy);rw[getElem!_pos _ 0 (by simpa using h1)]at this;have e:L[0]=x:=by rw[List.getElem?_eq_getElem h1]at h0;exact Option.some.inj h0
 have e2:L.toArray[0]'(by simpa using h1)=L[0]:=by simp
 rw[e2,e]at this;exact this
theorem gu (w:World)(R k:Nat)(v:Value):w.grownBy (w.setCell ⟨R,k,none⟩ v) (some R):=⟨rfl,rfl,rfl,by simp,fun i _ hi=>heap_setCell_other _ _ _ _ (fun e=>hi (by rw[e]))⟩
theorem HatQ.grown {w w':World}{base B o R:Nat}{v:Value}{L:List Int}(h:HatQ w base B o v L)(hg:w.grownBy w' (some R))(h1:B≠R)(h2:v.ownBlock≠some R):HatQ w' base B o v L :=
 ⟨hg.cell h.cell (by simpa using h1),by rw[World.frozen?_of_block (hg.block B h.lt (by simpa using h1))];exact h.frz,h.ne,World.ownsRow.kept h.own hg (.inr h2)⟩
theorem Ik (base B o m:Nat)(v:Value)(L:List Int)(hL:L.length=m+1)(w:World)(h:HatQ w base B o v L)(hp:Hp (m+1) L.toArray)(hsz:m+1<=1000000) :
 Calls Tryz.prog 138 #[.pointer (some ⟨B,o,none⟩)] w fun e w'=>∃(x:Int) (L':List Int) (v':Value),e=.returned (.agg #[.int .i64 (sp0 x),.int .i64 (sp1 x),.int .i64 (sp2 x)])/\x∈L/\(∀y∈L',y∈L/\y<x)/\(∀y∈L,y=x∨y∈L')/\L'.length<=m/\Hp L'.length L'.toArray/\HatQ w' base B o v' L'/\v'.ownBlock=v.ownBlock/\ButQ B o v.ownBlock w w':=by
 have hlt:=h.lt;have al0:=ag w (.cells #[.int .i64 0,.int .i64 0,.int .i64 0] 185);have PO:=ab (zL base B o m v L hL _ (h.keep al0) hp hsz);have HH:=ab h;have HL:=ab hL;have hob:∀x,v.ownBlock=some x->x<w.heap.size:=fun x hx=>(World.ownsRow.lt h.own x hx).2;have OB:=ab hob;clear h hL hp hob
 go_enter Tryz.func138,Tryz.ntmps138
 go_wp2_with fail;refine PO.out.mono ?_;rintro e w1 ⟨x,L1,v1,rfl,hx,hperm,hle,hl1,hp1,h1,ob1,b1⟩;have r0:=b1.cellK (p:=⟨w.heap.size,0,none⟩) (v:=.int .i64 0) (by go_simp) (by simp;omega) (fun e=>by have:=OB.out _ e;simp at this);have r1:=b1.cellK (p:=⟨w.heap.size,1,none⟩) (v:=.int .i64 0) (by go_simp) (by simp;omega) (fun e=>by have:=OB.out _ e;simp at this);have r2:=b1.cellK (p:=⟨w.heap.size,2,none⟩) (v:=.int .i64 0) (by go_simp) (by simp;omega) (fun e=>by have:=OB.out _ e;simp at this);have f0:=b1.frozK (p:=⟨w.heap.size,0,none⟩) (by simp) (by simp;omega) (fun e=>by have:=OB.out _ e;simp at this);have f1:=b1.frozK (p:=⟨w.heap.size,1,none⟩) (by simp) (by simp;omega) (fun e=>by have:=OB.out _ e;simp at this);have f2:=b1.frozK (p:=⟨w.heap.size,2,none⟩) (by simp) (by simp;omega) (fun e=>by have:=OB.out _ e;simp at this);rw[show(w.alloc (.cells #[.int .i64 0,.int .i64 0,.int .i64 0] 185)).frozen? ⟨w.heap.size,0,none⟩=false by go_simp]at f0;rw[show(w.alloc (.cells #[.int .i64 0,.int .i64 0,.int .i64 0] 185)).frozen? ⟨w.heap.size,1,none⟩=false by go_simp]at f1;rw[show(w.alloc (.cells #[.int .i64 0,.int .i64 0,.int .i64 0] 185)).frozen? ⟨w.heap.size,2,none⟩=false by go_simp]at f2;have hRS:w.heap.size<w1.heap.size:=World.block_lt_of_cell? _ _ r0;have BQ1:=ab ((ButQ.of_below (o:=o) (r:=v.ownBlock) al0 hlt).trans b1 (.inl rfl));have H1:=ab h1;have OB1:=ab ob1;have IN:Hid ((∀y∈L1,y∈L/\y<=x)/\(∀y∈L,y=x∨y∈L1)/\x∈L):=ab ⟨fun y hy=>⟨hperm.mem_iff.2 (List.mem_cons_of_mem _ hy),hle y hy⟩,fun y hy=>List.mem_cons.1 (hperm.mem_iff.1 hy),hperm.mem_iff.2 (List.mem_cons_self ..)⟩;have HP1:Hid (Hp L1.length L1.toArray):=ab (by rw[hl1];exact hp1);have L1m:L1.length<=m:=by omega
 clear PO al0 h1 b1 ob1 hperm hle hp1 hx hl1;have tA:=fun w=>uc (sp0 x) (sp1 x) (sp2 x) w;go_wp2_with fail;have al1:=ag w1 (.cells #[.int .i64 (sp0 x),.int .i64 (sp1 x),.int .i64 (sp2 x)] 185);have s0:(w1.alloc (.cells #[.int .i64 (sp0 x),.int .i64 (sp1 x),.int .i64 (sp2 x)] 185)).cell? ⟨w1.heap.size,0,none⟩=some (.int .i64 (sp0 x)):=by go_simp
 have s1:(w1.alloc (.cells #[.int .i64 (sp0 x),.int .i64 (sp1 x),.int .i64 (sp2 x)] 185)).cell? ⟨w1.heap.size,1,none⟩=some (.int .i64 (sp1 x)):=by go_simp
 have s2:(w1.alloc (.cells #[.int .i64 (sp0 x),.int .i64 (sp1 x),.int .i64 (sp2 x)] 185)).cell? ⟨w1.heap.size,2,none⟩=some (.int .i64 (sp2 x)):=by go_simp
 replace f0:=ac al1 r0 f0;replace f1:=ac al1 r1 f1;replace f2:=ac al1 r2 f2;replace r0:=aa al1 r0;replace r1:=aa al1 r1;replace r2:=aa al1 r2;have BQ2:=ab (BQ1.out.trans (ButQ.of_below (o:=o) (r:=v.ownBlock) al1 (Nat.lt_of_lt_of_le hlt BQ1.out.size)) (.inl rfl));have H2:=ab (H1.out.keep al1);clear al1 BQ1 H1;generalize w1.alloc (.cells #[.int .i64 (sp0 x),.int .i64 (sp1 x),.int .i64 (sp2 x)] 185)=w2 at *;have hS2:w1.heap.size<w2.heap.size:=World.block_lt_of_cell? _ _ s0;have hBS:B≠w1.heap.size/\B≠w.heap.size:=by have:=BQ2.out.size;exact⟨by omega,by omega⟩
 obtain⟨S,eS⟩:∃S,w1.heap.size=S:=⟨_,rfl⟩
 obtain⟨R,eR⟩:∃R,w.heap.size=R:=⟨_,rfl⟩
 rw[eS]at s0 s1 s2 hS2 hRS hBS;rw[eR]at r0 r1 r2 f0 f1 f2 hRS hBS;have OBS:∀z,v.ownBlock=some z->z≠S/\z≠R:=fun z hz=>by have:=OB.out z hz;omega
 have OBS:=ab OBS;have hRw:w.heap.size<=R:=by omega
 rw[eS,eR];clear eS eR;go_loopw [] (fun wr=>∃(Lk:List Int) (vk:Value),Lk.length<=m/\Hid (HatQ wr base B o vk Lk)/\Hid (Hp Lk.length Lk.toArray)/\Hid ((∀y∈Lk,y∈L/\y<=x)/\(∀y∈L,y=x∨y∈Lk))/\Hid (vk.ownBlock=v.ownBlock)/\Hid (ButQ B o v.ownBlock w wr) /\
  (wr.cell? ⟨R,0,none⟩=some (.int .i64 0)/\wr.cell? ⟨R,1,none⟩=some (.int .i64 0)/\wr.cell? ⟨R,2,none⟩=some (.int .i64 0))/\(wr.frozen? ⟨R,0,none⟩=false/\wr.frozen? ⟨R,1,none⟩=false/\wr.frozen? ⟨R,2,none⟩=false) /\
  (wr.cell? ⟨S,0,none⟩=some (.int .i64 (sp0 x))/\wr.cell? ⟨S,1,none⟩=some (.int .i64 (sp1 x))/\wr.cell? ⟨S,2,none⟩=some (.int .i64 (sp2 x)))) (fun wr=>oy wr ⟨B,o,none⟩)
 case atStart=>exact⟨L1,v1,L1m,H2,HP1,ab ⟨IN.out.1,IN.out.2.1⟩,OB1,BQ2,⟨r0,r1,r2⟩,⟨f0,f1,f2⟩,s0,s1,s2⟩
 case round =>
  clear r0 r1 r2 f0 f1 f2 s0 s1 s2;obtain⟨Lk,vk,hlm,HA,HPk,INk,OBk,BQ,⟨r0,r1,r2⟩,⟨f0,f1,f2⟩,s0,s1,s2⟩:=hrel;have hcB:=HA.out.cell;obtain⟨n,hn⟩:∃n,Lk.length=n:=⟨_,rfl⟩
  obtain⟨p,c,rfl⟩:=HA.out.any;rw[hn]at hcB hlm HPk;have FIN:(∀y∈Lk,y<x)->∀W,Below wr.heap.size wr W->(((W.setCell ⟨R,0,none⟩ (.int .i64 (sp0 x))).setCell ⟨R,1,none⟩ (.int .i64 (sp1 x))).setCell ⟨R,2,none⟩ (.int .i64 (sp2 x))).cell? ⟨R,0,none⟩=some (.int .i64 (sp0 x)) /\
   (((W.setCell ⟨R,0,none⟩ (.int .i64 (sp0 x))).setCell ⟨R,1,none⟩ (.int .i64 (sp1 x))).setCell ⟨R,2,none⟩ (.int .i64 (sp2 x))).cell? ⟨R,1,none⟩=some (.int .i64 (sp1 x)) /\
   (((W.setCell ⟨R,0,none⟩ (.int .i64 (sp0 x))).setCell ⟨R,1,none⟩ (.int .i64 (sp1 x))).setCell ⟨R,2,none⟩ (.int .i64 (sp2 x))).cell? ⟨R,2,none⟩=some (.int .i64 (sp2 x)) /\
   ∃(L':List Int) (v':Value),(∀y∈L',y∈L/\y<x)/\(∀y∈L,y=x∨y∈L')/\L'.length<=m/\Hp L'.length L'.toArray/\HatQ (((W.setCell ⟨R,0,none⟩ (.int .i64 (sp0 x))).setCell ⟨R,1,none⟩ (.int .i64 (sp1 x))).setCell ⟨R,2,none⟩ (.int .i64 (sp2 x))) base B o v' L'/\v'.ownBlock=v.ownBlock/\ButQ B o v.ownBlock w (((W.setCell ⟨R,0,none⟩ (.int .i64 (sp0 x))).setCell ⟨R,1,none⟩ (.int .i64 (sp1 x))).setCell ⟨R,2,none⟩ (.int .i64 (sp2 x))):=by
   intro hy W hW;have t:=aJ (u0:=.int .i64 (sp0 x)) (u1:=.int .i64 (sp1 x)) (u2:=.int .i64 (sp2 x)) (aa hW r0) (aa hW r1) (aa hW r2);have G:=aF (aF (gu W R 0 (.int .i64 (sp0 x))) (gu _ R 1 (.int .i64 (sp1 x)))) (gu _ R 2 (.int .i64 (sp2 x)));have hBW:B<W.heap.size:=Nat.lt_of_lt_of_le (Nat.lt_of_lt_of_le hlt BQ.out.size) hW.size;refine⟨t.1,t.2.1,t.2.2,Lk,_,fun y h=>⟨(INk.out.1 y h).1,hy y h⟩,INk.out.2,by omega,by rw[hn];exact HPk.out,(HA.out.keep hW).grown G hBS.2 (fun e=>(OBS.out R (OBk.out.symm.trans e)).2 rfl),OBk.out,?_⟩;have hBr:B<wr.heap.size:=Nat.lt_of_lt_of_le hlt BQ.out.size;exact(BQ.out.trans (ButQ.of_below (r:=v.ownBlock) hW hBr) (.inl rfl)).trans (ButQ.grown G hBW (fun e=>hBS.2 (Option.some.inj e).symm)) (.inr fun z hz=>by rw[←Option.some.inj hz];exact hRw)
  have FIN:=ab FIN;by_cases h0:n=0
  · have hd:decide (0<n)=false:=df (by omega);have FI:=ab (FIN.out (fun y hy=>by rw[h0]at hn;rw[List.length_eq_zero_iff.1 hn]at hy;cases hy));clear FIN h0;go_wp2_with fail
    go_quiet (fail)
    have bN:=aB (Below.refl wr.heap.size wr) nq;obtain⟨t0,t1,t2,L',v',k⟩:=FI.out _ bN;have K:=ab k;clear FI k;go_wp2_with fail;exact bodyPost_ret (v:=.agg #[.int .i64 (sp0 x),.int .i64 (sp1 x),.int .i64 (sp2 x)]) (by simp[results,Tryz.results138,go_sem,t0,t1,t2]) rfl ⟨x,L',v',rfl,IN.out.2.2,K.out⟩
  · obtain⟨k,rfl⟩:∃k,n=k+1:=⟨n-1,by omega⟩
    have hd:decide (0<k+1)=true:=decide_eq_true (by omega);obtain⟨g,c2,e,-,hBg,hRow,-,-⟩:=HA.out.form (by omega);simp only[Value.slice.injEq]at e;obtain⟨rfl,-,rfl⟩:=e;obtain⟨t,ht⟩:∃t,Lk[0]?=some t:=⟨_,List.getElem?_eq_getElem (by omega)⟩
    have hrow:=(hRow.at_ 0 (by simp;omega)).1;have e0:Lk.toArray[0]! =t:=by rw[getElem!_pos _ 0 (by simp;omega)];rw[List.getElem?_eq_getElem (by omega)]at ht;simpa using ht
    rw[e0,Nat.zero_mul]at hrow;obtain⟨a0,a1,a2⟩:=hrow;simp only[Nat.zero_add]at a1 a2;have TOP:=ab (Hx (by rw[hn];exact HPk.out) ht);have HT:=ab ht;clear hRow e0 ht;have hcB0:=ab hcB;by_cases hx:t=x
    · subst hx;clear FIN;have HPk2:Hp (k+1) Lk.toArray:=HPk.out;have PO:=ab fun W (hW:Below wr.heap.size wr W)=>zL base B o k _ Lk hn W (HA.out.keep hW) HPk2 (by omega);have hBr:B<wr.heap.size:=Nat.lt_of_lt_of_le hlt BQ.out.size;clear HPk2;go_wp2_with fail
      go_quiet (fail)
      have bN:=aB (Below.refl wr.heap.size wr) nq;have PO2:=ab (PO.out _ bN);replace r0:=aa bN r0;replace r1:=aa bN r1;replace r2:=aa bN r2;replace f0:=ac bN r0 f0;replace f1:=ac bN r1 f1;replace f2:=ac bN r2 f2;replace s0:=aa bN s0;replace s1:=aa bN s1;replace s2:=aa bN s2;have BQN:=ab (BQ.out.trans (ButQ.of_below (r:=v.ownBlock) bN hBr) (.inl rfl));have hcN:=aa bN hcB;clear PO bN a0 a1 a2 hd hcB;generalize wr.drewN nq=wN at *;go_wp2_with fail;refine PO2.out.mono ?_;rintro e w3 ⟨x',L'',v'',rfl,hx',hperm,-,hl,hp',h',ob',b'⟩;obtain rfl:x'=t:=Option.some.inj (hx'.symm.trans HT.out);have nR:(Value.slice (some ⟨g,0,none⟩) (k+1) c).ownBlock≠some R:=fun e=>(OBS.out R (OBk.out.symm.trans e)).2 rfl;have nS:(Value.slice (some ⟨g,0,none⟩) (k+1) c).ownBlock≠some S:=fun e=>(OBS.out S (OBk.out.symm.trans e)).1 rfl;have nB:R≠B/\S≠B:=⟨fun e=>hBS.2 e.symm,fun e=>hBS.1 e.symm⟩
      have lR:=World.block_lt_of_cell? _ _ r0;replace f0:=(b'.frozK (p:=⟨R,0,none⟩) lR nB.1 nR).trans f0;replace f1:=(b'.frozK (p:=⟨R,1,none⟩) lR nB.1 nR).trans f1;replace f2:=(b'.frozK (p:=⟨R,2,none⟩) lR nB.1 nR).trans f2;replace r0:=b'.cellK r0 nB.1 nR;replace r1:=b'.cellK r1 nB.1 nR;replace r2:=b'.cellK r2 nB.1 nR;replace s0:=b'.cellK s0 nB.2 nS;replace s1:=b'.cellK s1 nB.2 nS;replace s2:=b'.cellK s2 nB.2 nS;have H3:=ab h';have HP3:Hid (Hp L''.length L''.toArray):=ab (by rw[hl];exact hp');have OB3:=ab (ob'.trans OBk.out);have BQ3:=ab (BQN.out.trans b' (.inl OBk.out));have IN3:Hid ((∀y∈L'',y∈L/\y<=x')/\(∀y∈L,y=x'∨y∈L'')):=ab ⟨fun y hy=>INk.out.1 y (hperm.mem_iff.2 (List.mem_cons_of_mem _ hy)),fun y hy=>(INk.out.2 y hy).elim .inl fun h=>List.mem_cons.1 (hperm.mem_iff.1 h)⟩;obtain⟨p3,c3,e3⟩:=h'.any;have M3:=mW (by rw[←e3];exact h'.cell);rw[hl]at M3;have M0:=ab (mW hcB0.out);have M3:=ab M3;clear PO2 h' hp' ob' b' hperm hx' BQN e3 HA HPk INk OBk BQ;go_wp2_with fail;go_roundw
      case rel=>exact⟨L'',v'',by omega,H3,HP3,IN3,OB3,BQ3,⟨r0,r1,r2⟩,⟨f0,f1,f2⟩,s0,s1,s2⟩
      case measure=>rw[M0.out,M3.out];omega
    · have FI0:∀y∈Lk,y<x:=fun y hy=>by
       have h1:=TOP.out y hy;have h2:=(INk.out.1 t (List.mem_of_getElem? HT.out)).2;omega
      have FI:=ab (FIN.out FI0);have hne:¬(sp0 t=sp0 x/\sp1 t=sp1 x/\sp2 t=sp2 x):=fun h=>hx (ID h.1 h.2.1 h.2.2);clear FIN FI0 TOP HT hx;generalize sp0 t=z0 at *;generalize sp1 t=z1 at *;generalize sp2 t=z2 at *;by_cases c0:z0=sp0 x
      · by_cases c1:z1=sp1 x
        · have c2':(z2 == sp2 x)=false:=by simpa using fun e=>hne ⟨c0,c1,e⟩
          rw[c0]at a0;rw[c1]at a1;clear hne c0 c1;go_wp2_with fail
          go_quiet (fail)
          have bN:=aB (Below.refl wr.heap.size wr) nq;obtain⟨t0,t1,t2,L',v',k⟩:=FI.out _ bN;have K:=ab k;clear FI k;go_wp2_with fail;exact bodyPost_ret (v:=.agg #[.int .i64 (sp0 x),.int .i64 (sp1 x),.int .i64 (sp2 x)]) (by simp[results,Tryz.results138,go_sem,t0,t1,t2]) rfl ⟨x,L',v',rfl,IN.out.2.2,K.out⟩
        · have c1':(z1 == sp1 x)=false:=by simpa using c1
          rw[c0]at a0;clear hne c0 c1;go_wp2_with fail
          go_quiet (fail)
          have bN:=aB (Below.refl wr.heap.size wr) nq;obtain⟨t0,t1,t2,L',v',k⟩:=FI.out _ bN;have K:=ab k;clear FI k;go_wp2_with fail;exact bodyPost_ret (v:=.agg #[.int .i64 (sp0 x),.int .i64 (sp1 x),.int .i64 (sp2 x)]) (by simp[results,Tryz.results138,go_sem,t0,t1,t2]) rfl ⟨x,L',v',rfl,IN.out.2.2,K.out⟩
      · have c0':(z0 == sp0 x)=false:=by simpa using c0
        clear hne c0;go_wp2_with fail
        go_quiet (fail)
        have bN:=aB (Below.refl wr.heap.size wr) nq;obtain⟨t0,t1,t2,L',v',k⟩:=FI.out _ bN;have K:=ab k;clear FI k;go_wp2_with fail;exact bodyPost_ret (v:=.agg #[.int .i64 (sp0 x),.int .i64 (sp1 x),.int .i64 (sp2 x)]) (by simp[results,Tryz.results138,go_sem,t0,t1,t2]) rfl ⟨x,L',v',rfl,IN.out.2.2,K.out⟩
theorem Dx (w:World)(B:Nat)(h:w.heap.size=B)(x y z:Int)(e:TypeId):∀j u,([.int .i64 x,.int .i64 y,.int .i64 z]:List Value)[j]?=some u->(w.alloc (.cells #[.int .i64 x,.int .i64 y,.int .i64 z] e)).cell? ((⟨B,0,none⟩:Addr).add j)=some u:=by
 subst h;intro j u hj
 match j,hj with
 | 0,hj=>simp at hj;subst hj;simp[Addr.add]
 | 1,hj=>simp at hj;subst hj;simp[Addr.add]
 | 2,hj=>simp at hj;subst hj;simp[Addr.add]
theorem Dy (x y z:Int):∀u∈([.int .i64 x,.int .i64 y,.int .i64 z]:List Value),u.oneCell'=true:=by
 intro u hu;simp at hu;rcases hu with rfl | rfl | rfl <;>rfl
theorem Cc:(Tryz.prog.info? 185).map (fun i=>(i.zero,i.size,i.bytes))=some (some (.agg #[.int .i64 0,.int .i64 0,.int .i64 0]),3,24):=by kernel_rfl
theorem de {i?:Option TypeInfo}{z:Value}{s b:Nat}(h:i?.map (fun i=>(i.zero,i.size,i.bytes))=some (some z,s,b)):∃i,i?=some i/\i.zero=some z/\i.size=s/\i.bytes=b:=by
 cases i? with
 | none=>simp at h
 | some i=>simp at h;exact⟨i,rfl,h.1,h.2.1,h.2.2⟩
theorem ig {w w6:World}{row:Option Nat}{p:Addr}{v:Value}(hg:w.grownBy w6 row)(hne:some p.block≠row)(h:w.cell? p=some v/\w.frozen? p=false):w6.cell? p=some v/\w6.frozen? p=false :=
 ⟨hg.cell h.1 hne,by rw[World.frozen?_of_block (hg.block p.block (World.block_lt_of_cell? _ _ h.1) hne)];exact h.2⟩
theorem Il (base B o n c:Nat)(p:Option Addr)(L:List Int)(x:Int)(hn:L.length=n)(w:World)(h:HatQ w base B o (.slice p n c) L)(hbase:base<=w.heap.size)(hsz:n<=200000) :
 Calls Tryz.prog 255 #[.pointer (some ⟨B,o,none⟩),.iface 185 (.agg #[.int .i64 (sp0 x),.int .i64 (sp1 x),.int .i64 (sp2 x)])] w fun e w'=>e=.returned (.tuple #[])/\∃g' c',HatQ w' base B o (.slice (some ⟨g',0,none⟩) (n+1) c') (L++[x])/\ButQ B o (Value.slice p n c).ownBlock w w'/\((Value.slice p n c).ownBlock=some g'∨w.heap.size<=g'):=by
 have hB:=h.cell;have hF:=h.frz;have hlt:=h.lt;have hne:=h.ne;have hO:=h.own;rw[hn]at hO;have HN:=ab hn;have hA:=fun w=>uc (sp0 x) (sp1 x) (sp2 x) w;have al:=ag w (.cells #[.int .i64 (sp0 x),.int .i64 (sp1 x),.int .i64 (sp2 x)] 185);have CS:=ab (And.intro (aa al hB) (ac al hB hF));have hOa:=ab (ai al hO);have AL:=ab al;have hneQ:some (⟨B,o,none⟩:Addr).block≠(Value.slice p n c).ownBlock:=fun e=>hne e.symm;have HX:=ab (BH x);clear h hn hO al;generalize sp0 x=s0 at *;generalize sp1 x=s1 at *;generalize sp2 x=s2 at *;obtain⟨i0,hi,hz0,hz1,hz2⟩:=de Cc
 go_enter Tryz.func255,Tryz.ntmps255
 go_wp2_with fail
 go_region_law ((refine step_append_lies _ (by rfl) _ _ _ (by rfl) base 185 i0 (.agg #[.int .i64 0,.int .i64 0,.int .i64 0]) 3 24 Tryz.underlying139 hi hz0 hz1 hz2 rfl (by decide) _ n (bY L) (by rfl) hOa.out ⟨w.heap.size,0,none⟩ 1 1 [.int .i64 s0,.int .i64 s1,.int .i64 s2] (by rfl) rfl (Dx w.drew w.heap.size rfl s0 s1 s2 185) (Dy _ _ _) (by decide) (by unfold maxLen;omega) (by omega) (by simp;omega) (w.heap.size+1) (by simp) ?_;intro g6 c6 w6 hown hgrow hat hlt6;obtain⟨cs6,fs6⟩:=ig hgrow hneQ CS.out))
 all_goals
  have hg6:B≠g6/\((Value.slice p n c).ownBlock=some g6∨w.heap.size<=g6):=by
   rcases hat with h | h
   · exact⟨fun e=>hne (by rw[h,e]),.inl h⟩
   · exact⟨by omega,.inr (by omega)⟩
  have hb6:ButQ B o (Value.slice p n c).ownBlock w w6:=by
   have b1:ButQ B o (Value.slice p n c).ownBlock w (w.alloc (.cells #[.int .i64 s0,.int .i64 s1,.int .i64 s2] 185)).drew:=ButQ.of_below (ae AL.out (aK _)) hlt;exact b1.trans (ButQ.grown hgrow (by simp;omega) hne) (.inl rfl)
  have FIN:=ab (And.intro hown (And.intro hg6 hb6));have CF:=ab (And.intro cs6 fs6);clear hown hgrow hat hg6 hb6;go_wp2_with fail
  go_end0
  obtain⟨ho,hg6,hb6⟩:=FIN.out;have hl6:(L++[x]).length=n+1:=by simp[HN.out]
  have hv:bY (L++[x])=bY L++[.int .i64 s0,.int .i64 s1,.int .i64 s2]:=by rw[BC,HX.out]
  refine⟨rfl,g6,c6,⟨ay CF.out.1,by rw[World.frozen?_setCell];exact CF.out.2,fun e=>hg6.1 (by simpa[Value.ownBlock,eq_comm]using e),?_⟩,hb6.set _,hg6.2⟩;rw[hl6,hv];exact(((ButQ.refl B o none _).set _).own ho (fun e=>hg6.1 (by simpa[Value.ownBlock,eq_comm]using e)) (fun x e=>by cases e))
theorem F9 (base B o n c:Nat)(p:Option Addr)(L:List Int)(x:Int)(hn:L.length=n)(w:World)(h:HatQ w base B o (.slice p n c) L)(hp:Hp n L.toArray)(hbase:base<=w.heap.size)(hsz:n<=200000) :
 Calls Tryz.prog 114 #[.iface 183 (.pointer (some ⟨B,o,none⟩)),.iface 185 (.agg #[.int .i64 (sp0 x),.int .i64 (sp1 x),.int .i64 (sp2 x)])] w fun e w'=>e=.returned (.tuple #[])/\∃g' c' L',HatQ w' base B o (.slice (some ⟨g',0,none⟩) (n+1) c') L'/\L'.Perm (x :: L)/\Hp (n+1) L'.toArray/\L'.length=n+1/\ButQ B o (Value.slice p n c).ownBlock w w'/\((Value.slice p n c).ownBlock=some g'∨w.heap.size<=g'):=by
 have hP:=ab (uN hp (by simp[hn]) x);have FP:=ab (Il base B o n c p L x hn w h hbase hsz);have HN:=ab hn;have mP:=Ib B o w;have hlt:=h.lt;clear h hp hn
 go_enter Tryz.func114,Tryz.ntmps114
 go_wp2_with fail;refine FP.out.mono ?_;rintro e w1 ⟨rfl,g1,c1,h1,hb1,hg1⟩;have hl1:(L++[x]).length=n+1:=by simp[HN.out]
 have hB1:=h1.cell;have mN:=Ec B o w1 _ hB1;have hsd:((L++[x]).toArray).size=n+1:=by simp[HN.out]
 have hne1:B≠g1:=fun e=>h1.ne (by rw[e];rfl);have hR1:RowS base g1 c1 (L++[x]).toArray w1:=by
  have:=h1.own;rw[hl1]at this;unfold RowS;rw[hsd];exact this
 have UP:=ab (JU B o base g1 c1 (n+1) n (L++[x]).toArray hsd w1 hB1 hne1 hR1 (by omega) (by omega));have H1:=ab (And.intro h1 (And.intro hb1 hg1));have e1:((n+1:Nat):Int)-1=(n:Int):=by omega
 clear FP mP h1 hb1 hg1 hR1;go_wp2_with fail;refine(Eg _ (n+1) ⟨_,_,rfl⟩ _).mono ?_;rintro e w2 ⟨rfl,rfl⟩;go_wp2_with fail;refine UP.out.mono ?_;rintro e w3 ⟨rfl,h3,g3⟩;have HS:=ab (And.intro h3 g3);clear UP h3 g3 mN;go_wp2_with fail
 go_end0
 obtain⟨h1,hb1,hg1⟩:=H1.out;obtain⟨h3,g3⟩:=HS.out;have e2:(L++[x]).toArray=L.toArray.push x:=by simp
 have hp:=hP.out;rw[←e2]at hp;refine⟨rfl,g1,c1,(aN n (L++[x]).toArray).toList,⟨g3.cell h1.cell (by simpa using hne1),by rw[World.frozen?_of_block (g3.block B h1.lt (by simpa using hne1))];exact h1.frz,h1.ne,?_⟩,by simpa using hp.2.1,by simpa using hp.1,by simpa using hp.2.2,hb1.trans (ButQ.grown g3 h1.lt (fun e=>hne1 (Option.some.inj e).symm)) (hg1.imp (fun h=>h.symm) fun h z hz=>by rw[←Option.some.inj hz];exact h),hg1⟩;have h4:RowS base g1 c1 (aN n (L++[x]).toArray) w3:=h3;unfold RowS at h4;rw[hp.2.2]at h4;rw[show(aN n (L++[x]).toArray).toList.length=n+1 by simpa using hp.2.2];exact h4
theorem qo (a b r X Y:Int)(CE:Hid (∀w,Calls Tryz.prog 56 #[.agg #[.int .i64 a,.int .i64 b],.int .i64 r] w fun e w'=>e=.returned (.tuple #[.int .i64 X,.int .i64 Y,.bool true])/\Below w.heap.size w w'))(w:World) :
 Calls Tryz.prog 33 #[.agg #[.int .i64 a,.int .i64 b],.int .i64 r] w fun e w'=>e=.returned (.agg #[.int .i64 X,.int .i64 Y])/\Below w.heap.size w w':=by
 go_enter Tryz.func33,Tryz.ntmps33
 go_wp2_with fail;refine(CE.out _).mono ?_;rintro e w1 ⟨rfl,d1⟩;have c1:Below w.heap.size w w1:=Below.trans (by go_grown) (d1.mono (by simp;try omega));have r0:w1.cell? ⟨w.heap.size+1,0,none⟩=some (.int .i64 0):=aa d1 (by go_simp);have fr0:w1.frozen? ⟨w.heap.size+1,0,none⟩=false:=ac (v:=.int .i64 0) d1 (by go_simp) (by go_simp);have qr0:=World.block_lt_of_cell? _ _ r0;have r1:w1.cell? ⟨w.heap.size+1,1,none⟩=some (.int .i64 0):=aa d1 (by go_simp);have fr1:w1.frozen? ⟨w.heap.size+1,1,none⟩=false:=ac (v:=.int .i64 0) d1 (by go_simp) (by go_simp);have hB:=c1;clear c1 d1;obtain⟨g0,g1⟩:=au (u:=.int .i64 X) (v:=.int .i64 Y) r0 r1;go_wp2_with fail;exact bodyPost_ret (v:=.agg #[.int .i64 X,.int .i64 Y]) (by simp[results,Tryz.results33,go_sem,g0,g1]) rfl ⟨rfl,(hB.setCell (by simp;try omega) _).setCell (by simp;try omega) _⟩
theorem rW (a b r:Int)(K:Nat)(hK:K<=12)(hr:12-r=(K:Int))(ha:dP a)(hb:dP b)(w:World) :
 Calls Tryz.prog 33 #[.agg #[.int .i64 a,.int .i64 b],.int .i64 r] w fun e w'=>e=.returned (.agg #[.int .i64 (poX K a b),.int .i64 (poY K a b)])/\Below w.heap.size w w' :=
 qo a b r _ _ (ab fun w=>lY a b r K hK hr ha hb w) w
theorem oq {i:Nat}(hi:i<6):cW ((i:Int)%6)=uA i/\cY ((i:Int)%6)=uB i:=by
 obtain rfl | rfl | rfl | rfl | rfl | rfl:=bO hi
 all_goals exact⟨by decide,by decide⟩
theorem rZ (a b i p q X Y:Int)(UN:Hid (∀w,Uni w->Calls Tryz.prog 93 #[.int .i64 i] w fun e w'=>e=.returned (.agg #[.int .i64 p,.int .i64 q])/\Below w.heap.size w w'))(AD:Hid (∀w,Calls Tryz.prog 143 #[.agg #[.int .i64 a,.int .i64 b],.agg #[.int .i64 p,.int .i64 q]] w fun e w'=>e=.returned (.tuple #[.agg #[.int .i64 X,.int .i64 Y],.bool true])/\Below w.heap.size w w'))(w:World)(hU:Uni w) :
 Calls Tryz.prog 97 #[.agg #[.int .i64 a,.int .i64 b],.int .i64 i] w fun e w'=>e=.returned (.agg #[.int .i64 X,.int .i64 Y])/\Below w.heap.size w w':=by
 have al0:=ag w (.cells #[.int .i64 a,.int .i64 b] 37);have al1:=ag (w.alloc (.cells #[.int .i64 a,.int .i64 b] 37)) (.cells #[.int .i64 0,.int .i64 0] 37);have hB:=ae al0 al1;have hU1:=ab (hU.below hB);have z0:((w.alloc (.cells #[.int .i64 a,.int .i64 b] 37)).alloc (.cells #[.int .i64 0,.int .i64 0] 37)).cell? ⟨w.heap.size,0,none⟩=some (.int .i64 a):=by go_simp
 have z1:((w.alloc (.cells #[.int .i64 a,.int .i64 b] 37)).alloc (.cells #[.int .i64 0,.int .i64 0] 37)).cell? ⟨w.heap.size,1,none⟩=some (.int .i64 b):=by go_simp
 have r0:((w.alloc (.cells #[.int .i64 a,.int .i64 b] 37)).alloc (.cells #[.int .i64 0,.int .i64 0] 37)).cell? ⟨w.heap.size+1,0,none⟩=some (.int .i64 0):=by go_simp
 have r1:((w.alloc (.cells #[.int .i64 a,.int .i64 b] 37)).alloc (.cells #[.int .i64 0,.int .i64 0] 37)).cell? ⟨w.heap.size+1,1,none⟩=some (.int .i64 0):=by go_simp
 have fr0:((w.alloc (.cells #[.int .i64 a,.int .i64 b] 37)).alloc (.cells #[.int .i64 0,.int .i64 0] 37)).frozen? ⟨w.heap.size+1,0,none⟩=false:=by go_simp
 have fr1:((w.alloc (.cells #[.int .i64 a,.int .i64 b] 37)).alloc (.cells #[.int .i64 0,.int .i64 0] 37)).frozen? ⟨w.heap.size+1,1,none⟩=false:=by go_simp
 clear al0 al1 hU
 go_enter Tryz.func97,Tryz.ntmps97
 go_wp2_with fail;generalize (w.alloc (.cells #[.int .i64 a,.int .i64 b] 37)).alloc (.cells #[.int .i64 0,.int .i64 0] 37)=w1 at *;have hT1:Hid (∀wx,(wx.cell? ⟨w.heap.size,0,none⟩=some (.int .i64 a)/\wx.cell? ⟨w.heap.size,1,none⟩=some (.int .i64 b)/\Below w1.heap.size w1 wx)->Uni wx):=ab fun wx h=>hU1.out.below h.2.2;have hS0:=dB (aK w1) ⟨z0,z1,Below.refl _ _⟩;have qz:=World.block_lt_of_cell? _ _ r0
 go_cut [5]from 8 to 13 (fun v5 wx=>∃p:Nat,v5=.pointer (some ⟨p,0,none⟩)/\w1.heap.size<=p/\wx.cell? ⟨p,0,none⟩=some (.int .i64 X)/\wx.cell? ⟨p,1,none⟩=some (.int .i64 Y)/\Below w1.heap.size w1 wx)
 case first =>
  go_region_held3 (fun w'=>w'.cell? ⟨w.heap.size,0,none⟩=some (.int .i64 a)/\w'.cell? ⟨w.heap.size,1,none⟩=some (.int .i64 b)/\Below w1.heap.size w1 w') (first | exact hS0 | exact dB hb (by assumption) | exact dB (ag _ _) (by assumption) | exact lV (by first | omega | (simp;omega) | simp) (by first | omega | (simp;omega) | simp) (by first | omega | (simp;omega) | simp) (by assumption) | exact kj (by first | omega | (simp;omega) | simp) (by first | omega | (simp;omega) | simp) (by first | omega | (simp;omega) | simp) (by assumption))
   (first | (go_at_call 93;refine(UN.out _ (hT1.out _ (by assumption))).mono ?_;rintro e w' ⟨rfl,hb⟩;(try (have nw:=jf hb (by first | assumption | exact gx _);have nw0:=nw.1;have nw1:=nw.2.1;have nw2:=nw.2.2.1;have nw3:=nw.2.2.2));have hz:=hb.size;(try simp at hz)) | (go_at_call 143;refine(AD.out _).mono ?_;rintro e w' ⟨rfl,hb⟩;(try (have nw:=jf hb (by first | assumption | exact gx _);have nw0:=nw.1;have nw1:=nw.2.1;have nw2:=nw.2.2.1;have nw3:=nw.2.2.2));have hz:=hb.size;(try simp at hz)))
  all_goals
   rename_i hS;go_wp2_with fail;go_meet;exact⟨_,rfl,(by first | omega | (simp;omega) | simp),(by first | exact ah (ay nw0) (by simp) | go_simp),(by first | exact ay (ah nw1 (by simp)) | go_simp),hS.2.2⟩
 case rest =>
  obtain⟨k,rfl,hk,t0,t1,hw⟩:=hcut;replace fr0:=ac hw r0 fr0;replace fr1:=ac hw r1 fr1;replace r0:=aa hw r0;replace r1:=aa hw r1;replace hB:=ae hB hw;obtain⟨g0,g1⟩:=au (u:=.int .i64 X) (v:=.int .i64 Y) r0 r1;go_wp2_with fail;exact bodyPost_ret (v:=.agg #[.int .i64 X,.int .i64 Y]) (by simp[results,Tryz.results97,go_sem,g0,g1]) rfl ⟨rfl,(hB.setCell (by simp;try omega) _).setCell (by simp;try omega) _⟩
theorem vh (a b:Int)(i:Nat)(hi:i<6)(ha: -1000000000<=a/\a<=1000000000)(hb: -1000000000<=b/\b<=1000000000)(w:World)(hU:Uni w) :
 Calls Tryz.prog 97 #[.agg #[.int .i64 a,.int .i64 b],.int .i64 (i:Int)] w fun e w'=>e=.returned (.agg #[.int .i64 (a+uA i),.int .i64 (b+uB i)])/\Below w.heap.size w w':=by
 have hu:(-1<=uA i/\uA i<=1)/\(-1<=uB i/\uB i<=1):=by
  obtain rfl | rfl | rfl | rfl | rfl | rfl:=bO hi <;>simp[uA,uB]
 refine rZ a b i (uA i) (uB i) _ _ (ab fun w hU=>?_) (ab fun w=>gI a b (uA i) (uB i) _ _ rfl rfl (by omega) (by omega) (by omega) (by omega) (by omega) (by omega) (by omega) (by omega) w) w hU;have:=kh (i:Int) (by omega) (by omega) w hU
 rwa [(oq hi).1,(oq hi).2]at this
def SizA (S:Nat)(r d:Int)(w:World):Prop:=w.cell? ⟨S,4,none⟩=some (.int .i64 r)/\w.cell? ⟨S,5,none⟩=some (.int .i64 d)
theorem SizA.keep {S:Nat}{r d:Int}{w w':World}(h:SizA S r d w)(hb:Below w.heap.size w w'):SizA S r d w':=⟨aa hb h.1,aa hb h.2⟩
theorem SizA.but {S:Nat}{r d:Int}{o:Nat}{row:Option Nat}{w w':World}(h:SizA S r d w)(hb:ButQ S o row w w')(h1:o≠4)(h2:o≠5):SizA S r d w':=⟨hb.cellB h.1 (fun e=>h1 e.symm),hb.cellB h.2 (fun e=>h2 e.symm)⟩
theorem iA {w0 a b:World}{p0 p1 p2 p3:Addr}{v0 v1 v2 v3:Value}(hb:Below a.heap.size a b)(h:a.cell? p0=some v0/\a.cell? p1=some v1/\a.cell? p2=some v2/\a.cell? p3=some v3/\Below w0.heap.size w0 a) :
 b.cell? p0=some v0/\b.cell? p1=some v1/\b.cell? p2=some v2/\b.cell? p3=some v3/\Below w0.heap.size w0 b :=
 ⟨aa hb h.1,aa hb h.2.1,aa hb h.2.2.1,aa hb h.2.2.2.1,ae h.2.2.2.2 hb⟩
theorem JR (X Y:Int)(w:World):(Instr.index 26 (.agg #[.int .i64 X,.int .i64 Y]) (.int .i64 0)).run Tryz.prog w=.ok (.int .i64 X) w:=by kernel_rfl
theorem JS (X Y:Int)(w:World):(Instr.index 26 (.agg #[.int .i64 X,.int .i64 Y]) (.int .i64 1)).run Tryz.prog w=.ok (.int .i64 Y) w:=by kernel_rfl
theorem r6 (S d:Nat)(a b r X Y P:Int)(hd:(d=0/\P=X)∨(d=1/\P=Y))(CE:Hid (∀w,Calls Tryz.prog 33 #[.agg #[.int .i64 a,.int .i64 b],.int .i64 r] w fun e w'=>e=.returned (.agg #[.int .i64 X,.int .i64 Y])/\Below w.heap.size w w'))(w:World)(h:SizA S r (d:Int) w) :
 Calls Tryz.prog 92 #[.pointer (some ⟨S,0,none⟩),.agg #[.int .i64 a,.int .i64 b]] w fun e w'=>e=.returned (.int .i64 P)/\Below w.heap.size w w':=by
 obtain⟨c4,c5⟩:=h;have al:=ag w (.cells #[.int .i64 a,.int .i64 b] 37);replace c4:=aa al c4;replace c5:=aa al c5;have z0:(w.alloc (.cells #[.int .i64 a,.int .i64 b] 37)).cell? ⟨w.heap.size,0,none⟩=some (.int .i64 a):=by go_simp
 have z1:(w.alloc (.cells #[.int .i64 a,.int .i64 b] 37)).cell? ⟨w.heap.size,1,none⟩=some (.int .i64 b):=by go_simp
 have I0:=JR X Y;have I1:=JS X Y;rcases hd with⟨rfl,rfl⟩ | ⟨rfl,rfl⟩
 · have c5':(w.alloc (.cells #[.int .i64 a,.int .i64 b] 37)).cell? ⟨S,5,none⟩=some (.int .i64 0):=c5;clear c5
   go_enter Tryz.func92,Tryz.ntmps92
   go_wp2_with fail;generalize w.alloc (.cells #[.int .i64 a,.int .i64 b] 37)=w1 at *;have hS0:=iA (aK w1) ⟨z0,z1,c4,c5',al⟩
   go_region_held3 (fun w'=>w'.cell? ⟨w.heap.size,0,none⟩=some (.int .i64 a)/\w'.cell? ⟨w.heap.size,1,none⟩=some (.int .i64 b)/\w'.cell? ⟨S,4,none⟩=some (.int .i64 r)/\w'.cell? ⟨S,5,none⟩=some (.int .i64 0)/\Below w.heap.size w w') (first | exact hS0 | exact iA hb (by assumption))
    (first | (go_at_call 33;refine(CE.out _).mono ?_;rintro e w' ⟨rfl,hb⟩))
   go_wp2;go_ret;rename_i hS;exact⟨rfl,hS.2.2.2.2⟩
 · have c5':(w.alloc (.cells #[.int .i64 a,.int .i64 b] 37)).cell? ⟨S,5,none⟩=some (.int .i64 1):=c5;clear c5
   go_enter Tryz.func92,Tryz.ntmps92
   go_wp2_with fail;generalize w.alloc (.cells #[.int .i64 a,.int .i64 b] 37)=w1 at *;have hS0:=iA (aK w1) ⟨z0,z1,c4,c5',al⟩
   go_region_held3 (fun w'=>w'.cell? ⟨w.heap.size,0,none⟩=some (.int .i64 a)/\w'.cell? ⟨w.heap.size,1,none⟩=some (.int .i64 b)/\w'.cell? ⟨S,4,none⟩=some (.int .i64 r)/\w'.cell? ⟨S,5,none⟩=some (.int .i64 1)/\Below w.heap.size w w') (first | exact hS0 | exact iA hb (by assumption))
    (first | (go_at_call 33;refine(CE.out _).mono ?_;rintro e w' ⟨rfl,hb⟩))
   go_wp2;go_ret;rename_i hS;exact⟨rfl,hS.2.2.2.2⟩
theorem vm (S d:Nat)(hd:d<=1)(a b r:Int)(K:Nat)(hK:K<=12)(hr:12-r=(K:Int))(hn:bP a b)(w:World)(h:SizA S r (d:Int) w) :
 Calls Tryz.prog 92 #[.pointer (some ⟨S,0,none⟩),.agg #[.int .i64 a,.int .i64 b]] w fun e w'=>e=.returned (.int .i64 (plc K d a b))/\Below w.heap.size w w':=by
 unfold bP at hn;refine r6 S d a b r _ _ _ ?_ (ab fun w=>rW a b r K hK hr ⟨by omega,by omega⟩ ⟨by omega,by omega⟩ w) w h;unfold plc;obtain rfl | rfl:d=0∨d=1:=by omega
 · exact .inl ⟨rfl,rfl⟩
 · exact .inr ⟨rfl,rfl⟩
theorem xn (base S n c d:Nat)(r:Int)(p:Option Addr)(H:List Int)(x a b t:Int)(hn:H.length=n)(PL:Hid (∀w,SizA S r (d:Int) w->Calls Tryz.prog 92 #[.pointer (some ⟨S,0,none⟩),.agg #[.int .i64 a,.int .i64 b]] w fun e w'=>e=.returned (.int .i64 t)/\Below w.heap.size w w'))
 (PU:Hid (∀w,HatQ w base S 7 (.slice p n c) H->base<=w.heap.size->Calls Tryz.prog 114 #[.iface 183 (.pointer (some ⟨S,7,none⟩)),.iface 185 (.agg #[.int .i64 t,.int .i64 a,.int .i64 b])] w fun e w'=>e=.returned (.tuple #[])/\∃g' c' H',HatQ w' base S 7 (.slice (some ⟨g',0,none⟩) (n+1) c') H'/\H'.Perm (x :: H)/\Hp (n+1) H'.toArray/\H'.length=n+1/\ButQ S 7 (Value.slice p n c).ownBlock w w'/\((Value.slice p n c).ownBlock=some g'∨w.heap.size<=g')))
 (w:World) (h:SizA S r (d:Int) w) (hH:HatQ w base S 7 (.slice p n c) H) (hbase:base<=w.heap.size) :
 Calls Tryz.prog 94 #[.pointer (some ⟨S,0,none⟩),.agg #[.int .i64 a,.int .i64 b]] w fun e w'=>e=.returned (.tuple #[])/\∃g' c' H',HatQ w' base S 7 (.slice (some ⟨g',0,none⟩) (n+1) c') H'/\H'.Perm (x :: H)/\Hp (n+1) H'.toArray/\H'.length=n+1/\ButQ S 7 (Value.slice p n c).ownBlock w w'/\((Value.slice p n c).ownBlock=some g'∨w.heap.size<=g'):=by
 have al:=ag w (.cells #[.int .i64 a,.int .i64 b] 37);have z0:(w.alloc (.cells #[.int .i64 a,.int .i64 b] 37)).cell? ⟨w.heap.size,0,none⟩=some (.int .i64 a):=by go_simp
 have z1:(w.alloc (.cells #[.int .i64 a,.int .i64 b] 37)).cell? ⟨w.heap.size,1,none⟩=some (.int .i64 b):=by go_simp
 have hlt:=hH.lt;have S1:=ab (h.keep al);have H1:=ab (hH.keep al);have AL:=ab al;have hN:=ab hn;clear h hH al hn
 go_enter Tryz.func94,Tryz.ntmps94
 go_wp2_with fail;generalize w.alloc (.cells #[.int .i64 a,.int .i64 b] 37)=w1 at *;have y0:=aa (aK w1) z0;have y1:=aa (aK w1) z1;have T1:=ab (S1.out.keep (aK w1));have BD:=ab (ae AL.out (aK w1));have HD:=ab (H1.out.keep (aK w1))
 go_region_with (first | (go_at_call 92;refine(PL.out _ T1.out).mono ?_;rintro e w2 ⟨rfl,hb⟩;have u0:=aa hb y0;have u1:=aa hb y1;have B2:=ab (ae BD.out hb);have H2:=ab (HD.out.keep hb);clear hb) | (go_at_call 114;refine(PU.out _ H2.out (Nat.le_trans hbase B2.out.size)).mono ?_;rintro e w3 ⟨rfl,k⟩;have K:=ab k;clear k))
 all_goals
  go_wp2_with fail
  go_end0
  obtain⟨g',c',H',k1,k2,k3,k4,k5,k6⟩:=K.out;exact⟨rfl,g',c',H',k1,k2,k3,k4,(ButQ.of_below B2.out hlt).trans k5 (.inl rfl),k6.imp id fun h=>Nat.le_trans B2.out.size h⟩
theorem Jw (base S n c d:Nat)(hd:d<=1)(r:Int)(K:Nat)(hK:K<=12)(hr:12-r=(K:Int))(p:Option Addr)(H:List Int)(a b:Int)(hab:bP a b)(hn:H.length=n)(hp:Hp n H.toArray)(hsz:n<=200000)(w:World)(h:SizA S r (d:Int) w)(hH:HatQ w base S 7 (.slice p n c) H)(hbase:base<=w.heap.size) :
 Calls Tryz.prog 94 #[.pointer (some ⟨S,0,none⟩),.agg #[.int .i64 a,.int .i64 b]] w fun e w'=>e=.returned (.tuple #[])/\∃g' c' H',HatQ w' base S 7 (.slice (some ⟨g',0,none⟩) (n+1) c') H'/\H'.Perm (bm K d a b :: H)/\Hp (n+1) H'.toArray/\H'.length=n+1/\ButQ S 7 (Value.slice p n c).ownBlock w w'/\((Value.slice p n c).ownBlock=some g'∨w.heap.size<=g'):=by
 have e:=lC (K:=K) (d:=d) hab;refine xn base S n c d r p H (bm K d a b) a b (plc K d a b) hn (ab fun w h=>vm S d hd a b r K hK hr hab w h) (ab fun w h hb=>?_) w h hH hbase;have:=F9 base S 7 n c p H (bm K d a b) hn w h hp hb hsz
 rwa [e.1,e.2.1,e.2.2]at this
end Go.Proofs.YtbnlhdnnenahfaaGreatDoor
