/-
  The first spot of package cover's heap, taken off as often as it is there; in whatever memory.
-/
import Derived.Test.YtdklpgphmoaniaaGreatDoorHFront
namespace Go.Proofs.YtdklpgphmoaniaaGreatDoor
open Go.RowKit
def cellLen (w:World) (p:Addr):Nat:=match w.cell? p with
 | some (.slice _ n _)=>n
 | _=>0
theorem cellLen_of {w:World} {p:Addr} {q:Option Addr} {n c:Nat} (h:w.cell? p=some (.slice q n c)):cellLen w p=n:=by unfold cellLen;rw [h]
theorem as_spot (a b c:Int) (w:World):(Instr.typeAssert (.iface 188 (.agg #[.int .i64 a,.int .i64 b,.int .i64 c])) 20 188 false).run Tryz.prog w=.ok (.agg #[.int .i64 a,.int .i64 b,.int .i64 c]) w:=by kernel_rfl
theorem hp_top {L:List Int} {x:Int} (h:Hp L.length L.toArray) (h0:L[0]?=some x):∀ y∈L,y≤x:=fun y hy=>by
 have h1:0 < L.length:=by
  cases L with
  | nil=>simp at h0
  | cons _ _=>simp
 have:=hp_max h (by simp) y (by simpa using hy)
 rw [getElem!_pos _ 0 (by simpa using h1)] at this
 have e:L[0]=x:=by rw [List.getElem?_eq_getElem h1] at h0;exact Option.some.inj h0
 have e2:L.toArray[0]'(by simpa using h1)=L[0]:=by simp
 rw [e2,e] at this
 exact this
theorem grown_set (w:World) (R k:Nat) (v:Value):w.grownBy (w.setCell ⟨R,k,none⟩ v) (some R):=⟨rfl,rfl,rfl,by simp,fun i _ hi=>heap_setCell_other _ _ _ _ (fun e=>hi (by rw [e]))⟩
theorem HatQ.grown {w w':World} {base B o R:Nat} {v:Value} {L:List Int} (h:HatQ w base B o v L) (hg:w.grownBy w' (some R)) (h1:B≠R) (h2:v.ownBlock≠some R):HatQ w' base B o v L :=
 ⟨hg.cell h.cell (by simpa using h1),by rw [World.frozen?_of_block (hg.block B h.lt (by simpa using h1))];exact h.frz,h.ne,World.ownsRow.kept h.own hg (.inr h2)⟩
set_option maxHeartbeats 8000000 in
set_option maxRecDepth 100000 in
theorem q_next (base B o m:Nat) (v:Value) (L:List Int) (hL:L.length=m+1) (w:World) (h:HatQ w base B o v L) (hp:Hp (m+1) L.toArray) (hsz:m+1≤1000000) :
 Calls Tryz.prog 137 #[.pointer (some ⟨B,o,none⟩)] w fun e w'=>∃ (x:Int) (L':List Int) (v':Value),e=.returned (.agg #[.int .i64 (sp0 x),.int .i64 (sp1 x),.int .i64 (sp2 x)])∧x∈L∧(∀ y∈L',y∈L∧y < x)∧(∀ y∈L,y=x∨y∈L')∧L'.length≤m∧Hp L'.length L'.toArray∧HatQ w' base B o v' L'∧v'.ownBlock=v.ownBlock∧ButQ B o v.ownBlock w w':=by
 have hlt:=h.lt
 have al0:=allocB w (.cells #[.int .i64 0,.int .i64 0,.int .i64 0] 188)
 have PO:=hidd (q_hpop base B o m v L hL _ (h.keep al0) hp hsz)
 have HH:=hidd h
 have HL:=hidd hL
 have hob:∀ x,v.ownBlock=some x→x < w.heap.size:=fun x hx=>(World.ownsRow.lt h.own x hx).2
 have OB:=hidd hob
 clear h hL hp hob
 go_enter Tryz.func137,Tryz.ntmps137
 go_wp2_with fail
 refine PO.out.mono ?_
 rintro e w1 ⟨x,L1,v1,rfl,hx,hperm,hle,hl1,hp1,h1,ob1,b1⟩
 have r0:=b1.cellK (p:=⟨w.heap.size,0,none⟩) (v:=.int .i64 0) (by go_simp) (by simp;omega) (fun e=>by have:=OB.out _ e;simp at this)
 have r1:=b1.cellK (p:=⟨w.heap.size,1,none⟩) (v:=.int .i64 0) (by go_simp) (by simp;omega) (fun e=>by have:=OB.out _ e;simp at this)
 have r2:=b1.cellK (p:=⟨w.heap.size,2,none⟩) (v:=.int .i64 0) (by go_simp) (by simp;omega) (fun e=>by have:=OB.out _ e;simp at this)
 have f0:=b1.frozK (p:=⟨w.heap.size,0,none⟩) (by simp) (by simp;omega) (fun e=>by have:=OB.out _ e;simp at this)
 have f1:=b1.frozK (p:=⟨w.heap.size,1,none⟩) (by simp) (by simp;omega) (fun e=>by have:=OB.out _ e;simp at this)
 have f2:=b1.frozK (p:=⟨w.heap.size,2,none⟩) (by simp) (by simp;omega) (fun e=>by have:=OB.out _ e;simp at this)
 rw [show (w.alloc (.cells #[.int .i64 0,.int .i64 0,.int .i64 0] 188)).frozen? ⟨w.heap.size,0,none⟩=false by go_simp] at f0
 rw [show (w.alloc (.cells #[.int .i64 0,.int .i64 0,.int .i64 0] 188)).frozen? ⟨w.heap.size,1,none⟩=false by go_simp] at f1
 rw [show (w.alloc (.cells #[.int .i64 0,.int .i64 0,.int .i64 0] 188)).frozen? ⟨w.heap.size,2,none⟩=false by go_simp] at f2
 have hRS:w.heap.size < w1.heap.size:=World.block_lt_of_cell? _ _ r0
 have BQ1:=hidd ((ButQ.of_below (o:=o) (r:=v.ownBlock) al0 hlt).trans b1 (.inl rfl))
 have H1:=hidd h1
 have OB1:=hidd ob1
 have IN:Hid ((∀ y∈L1,y∈L∧y≤x)∧(∀ y∈L,y=x∨y∈L1)∧x∈L):=hidd ⟨fun y hy=>⟨hperm.mem_iff.2 (List.mem_cons_of_mem _ hy),hle y hy⟩,fun y hy=>List.mem_cons.1 (hperm.mem_iff.1 hy),hperm.mem_iff.2 (List.mem_cons_self ..)⟩
 have HP1:Hid (Hp L1.length L1.toArray):=hidd (by rw [hl1];exact hp1)
 have L1m:L1.length≤m:=by omega
 clear PO al0 h1 b1 ob1 hperm hle hp1 hx hl1
 have tA:=fun w=>as_spot (sp0 x) (sp1 x) (sp2 x) w
 go_wp2_with fail
 have al1:=allocB w1 (.cells #[.int .i64 (sp0 x),.int .i64 (sp1 x),.int .i64 (sp2 x)] 188)
 have s0:(w1.alloc (.cells #[.int .i64 (sp0 x),.int .i64 (sp1 x),.int .i64 (sp2 x)] 188)).cell? ⟨w1.heap.size,0,none⟩=some (.int .i64 (sp0 x)):=by go_simp
 have s1:(w1.alloc (.cells #[.int .i64 (sp0 x),.int .i64 (sp1 x),.int .i64 (sp2 x)] 188)).cell? ⟨w1.heap.size,1,none⟩=some (.int .i64 (sp1 x)):=by go_simp
 have s2:(w1.alloc (.cells #[.int .i64 (sp0 x),.int .i64 (sp1 x),.int .i64 (sp2 x)] 188)).cell? ⟨w1.heap.size,2,none⟩=some (.int .i64 (sp2 x)):=by go_simp
 replace f0:=keepFrozen al1 r0 f0
 replace f1:=keepFrozen al1 r1 f1
 replace f2:=keepFrozen al1 r2 f2
 replace r0:=keepCell al1 r0
 replace r1:=keepCell al1 r1
 replace r2:=keepCell al1 r2
 have BQ2:=hidd (BQ1.out.trans (ButQ.of_below (o:=o) (r:=v.ownBlock) al1 (Nat.lt_of_lt_of_le hlt BQ1.out.size)) (.inl rfl))
 have H2:=hidd (H1.out.keep al1)
 clear al1 BQ1 H1
 generalize w1.alloc (.cells #[.int .i64 (sp0 x),.int .i64 (sp1 x),.int .i64 (sp2 x)] 188)=w2 at *
 have hS2:w1.heap.size < w2.heap.size:=World.block_lt_of_cell? _ _ s0
 have hBS:B≠w1.heap.size∧B≠w.heap.size:=by have:=BQ2.out.size;exact ⟨by omega,by omega⟩
 obtain ⟨S,eS⟩:∃ S,w1.heap.size=S:=⟨_,rfl⟩
 obtain ⟨R,eR⟩:∃ R,w.heap.size=R:=⟨_,rfl⟩
 rw [eS] at s0 s1 s2 hS2 hRS hBS
 rw [eR] at r0 r1 r2 f0 f1 f2 hRS hBS
 have OBS:∀ z,v.ownBlock=some z→z≠S∧z≠R:=fun z hz=>by have:=OB.out z hz;omega
 have OBS:=hidd OBS
 have hRw:w.heap.size≤R:=by omega
 rw [eS,eR]
 clear eS eR
 go_loopw [] (fun wr=>∃ (Lk:List Int) (vk:Value),Lk.length≤m∧Hid (HatQ wr base B o vk Lk)∧Hid (Hp Lk.length Lk.toArray)∧Hid ((∀ y∈Lk,y∈L∧y≤x)∧(∀ y∈L,y=x∨y∈Lk))∧Hid (vk.ownBlock=v.ownBlock)∧Hid (ButQ B o v.ownBlock w wr) ∧
  (wr.cell? ⟨R,0,none⟩=some (.int .i64 0)∧wr.cell? ⟨R,1,none⟩=some (.int .i64 0)∧wr.cell? ⟨R,2,none⟩=some (.int .i64 0))∧(wr.frozen? ⟨R,0,none⟩=false∧wr.frozen? ⟨R,1,none⟩=false∧wr.frozen? ⟨R,2,none⟩=false) ∧
  (wr.cell? ⟨S,0,none⟩=some (.int .i64 (sp0 x))∧wr.cell? ⟨S,1,none⟩=some (.int .i64 (sp1 x))∧wr.cell? ⟨S,2,none⟩=some (.int .i64 (sp2 x)))) (fun wr=>cellLen wr ⟨B,o,none⟩)
 case atStart=>exact ⟨L1,v1,L1m,H2,HP1,hidd ⟨IN.out.1,IN.out.2.1⟩,OB1,BQ2,⟨r0,r1,r2⟩,⟨f0,f1,f2⟩,s0,s1,s2⟩
 case round =>
  clear r0 r1 r2 f0 f1 f2 s0 s1 s2
  obtain ⟨Lk,vk,hlm,HA,HPk,INk,OBk,BQ,⟨r0,r1,r2⟩,⟨f0,f1,f2⟩,s0,s1,s2⟩:=hrel
  have hcB:=HA.out.cell
  obtain ⟨n,hn⟩:∃ n,Lk.length=n:=⟨_,rfl⟩
  obtain ⟨p,c,rfl⟩:=HA.out.any
  rw [hn] at hcB hlm HPk
  have FIN:(∀ y∈Lk,y < x)→∀ W,Below wr.heap.size wr W→(((W.setCell ⟨R,0,none⟩ (.int .i64 (sp0 x))).setCell ⟨R,1,none⟩ (.int .i64 (sp1 x))).setCell ⟨R,2,none⟩ (.int .i64 (sp2 x))).cell? ⟨R,0,none⟩=some (.int .i64 (sp0 x)) ∧
   (((W.setCell ⟨R,0,none⟩ (.int .i64 (sp0 x))).setCell ⟨R,1,none⟩ (.int .i64 (sp1 x))).setCell ⟨R,2,none⟩ (.int .i64 (sp2 x))).cell? ⟨R,1,none⟩=some (.int .i64 (sp1 x)) ∧
   (((W.setCell ⟨R,0,none⟩ (.int .i64 (sp0 x))).setCell ⟨R,1,none⟩ (.int .i64 (sp1 x))).setCell ⟨R,2,none⟩ (.int .i64 (sp2 x))).cell? ⟨R,2,none⟩=some (.int .i64 (sp2 x)) ∧
   ∃ (L':List Int) (v':Value),(∀ y∈L',y∈L∧y < x)∧(∀ y∈L,y=x∨y∈L')∧L'.length≤m∧Hp L'.length L'.toArray∧HatQ (((W.setCell ⟨R,0,none⟩ (.int .i64 (sp0 x))).setCell ⟨R,1,none⟩ (.int .i64 (sp1 x))).setCell ⟨R,2,none⟩ (.int .i64 (sp2 x))) base B o v' L'∧v'.ownBlock=v.ownBlock∧ButQ B o v.ownBlock w (((W.setCell ⟨R,0,none⟩ (.int .i64 (sp0 x))).setCell ⟨R,1,none⟩ (.int .i64 (sp1 x))).setCell ⟨R,2,none⟩ (.int .i64 (sp2 x))):=by
   intro hy W hW
   have t:=three_stores (u0:=.int .i64 (sp0 x)) (u1:=.int .i64 (sp1 x)) (u2:=.int .i64 (sp2 x)) (keepCell hW r0) (keepCell hW r1) (keepCell hW r2)
   have G:=grown_trans (grown_trans (grown_set W R 0 (.int .i64 (sp0 x))) (grown_set _ R 1 (.int .i64 (sp1 x)))) (grown_set _ R 2 (.int .i64 (sp2 x)))
   have hBW:B < W.heap.size:=Nat.lt_of_lt_of_le (Nat.lt_of_lt_of_le hlt BQ.out.size) hW.size
   refine ⟨t.1,t.2.1,t.2.2,Lk,_,fun y h=>⟨(INk.out.1 y h).1,hy y h⟩,INk.out.2,by omega,by rw [hn];exact HPk.out,(HA.out.keep hW).grown G hBS.2 (fun e=>(OBS.out R (OBk.out.symm.trans e)).2 rfl),OBk.out,?_⟩
   have hBr:B < wr.heap.size:=Nat.lt_of_lt_of_le hlt BQ.out.size
   exact (BQ.out.trans (ButQ.of_below (r:=v.ownBlock) hW hBr) (.inl rfl)).trans (ButQ.grown G hBW (fun e=>hBS.2 (Option.some.inj e).symm)) (.inr fun z hz=>by rw [← Option.some.inj hz];exact hRw)
  have FIN:=hidd FIN
  by_cases h0:n=0
  · have hd:decide (0 < n)=false:=df (by omega)
    have FI:=hidd (FIN.out (fun y hy=>by rw [h0] at hn;rw [List.length_eq_zero_iff.1 hn] at hy;cases hy))
    clear FIN h0
    go_wp2_with fail
    go_quiet (fail)
    have bN:=belowN (Below.refl wr.heap.size wr) nq
    obtain ⟨t0,t1,t2,L',v',k⟩:=FI.out _ bN
    have K:=hidd k
    clear FI k
    go_wp2_with fail
    exact bodyPost_ret (v:=.agg #[.int .i64 (sp0 x),.int .i64 (sp1 x),.int .i64 (sp2 x)]) (by simp [results,Tryz.results137,go_sem,t0,t1,t2]) rfl ⟨x,L',v',rfl,IN.out.2.2,K.out⟩
  · obtain ⟨k,rfl⟩:∃ k,n=k+1:=⟨n - 1,by omega⟩
    have hd:decide (0 < k+1)=true:=decide_eq_true (by omega)
    obtain ⟨g,c2,e,-,hBg,hRow,-,-⟩:=HA.out.form (by omega)
    simp only [Value.slice.injEq] at e
    obtain ⟨rfl,-,rfl⟩:=e
    obtain ⟨t,ht⟩:∃ t,Lk[0]?=some t:=⟨_,List.getElem?_eq_getElem (by omega)⟩
    have hrow:=(hRow.at_ 0 (by simp;omega)).1
    have e0:Lk.toArray[0]! =t:=by rw [getElem!_pos _ 0 (by simp;omega)];rw [List.getElem?_eq_getElem (by omega)] at ht;simpa using ht
    rw [e0,Nat.zero_mul] at hrow
    obtain ⟨a0,a1,a2⟩:=hrow
    simp only [Nat.zero_add] at a1 a2
    have TOP:=hidd (hp_top (by rw [hn];exact HPk.out) ht)
    have HT:=hidd ht
    clear hRow e0 ht
    have hcB0:=hidd hcB
    by_cases hx:t=x
    · subst hx
      clear FIN
      have HPk2:Hp (k+1) Lk.toArray:=HPk.out
      have PO:=hidd fun W (hW:Below wr.heap.size wr W)=>q_hpop base B o k _ Lk hn W (HA.out.keep hW) HPk2 (by omega)
      have hBr:B < wr.heap.size:=Nat.lt_of_lt_of_le hlt BQ.out.size
      clear HPk2
      go_wp2_with fail
      go_quiet (fail)
      have bN:=belowN (Below.refl wr.heap.size wr) nq
      have PO2:=hidd (PO.out _ bN)
      replace r0:=keepCell bN r0
      replace r1:=keepCell bN r1
      replace r2:=keepCell bN r2
      replace f0:=keepFrozen bN r0 f0
      replace f1:=keepFrozen bN r1 f1
      replace f2:=keepFrozen bN r2 f2
      replace s0:=keepCell bN s0
      replace s1:=keepCell bN s1
      replace s2:=keepCell bN s2
      have BQN:=hidd (BQ.out.trans (ButQ.of_below (r:=v.ownBlock) bN hBr) (.inl rfl))
      have hcN:=keepCell bN hcB
      clear PO bN a0 a1 a2 hd hcB
      generalize wr.drewN nq=wN at *
      go_wp2_with fail
      refine PO2.out.mono ?_
      rintro e w3 ⟨x',L'',v'',rfl,hx',hperm,-,hl,hp',h',ob',b'⟩
      obtain rfl:x'=t:=Option.some.inj (hx'.symm.trans HT.out)
      have nR:(Value.slice (some ⟨g,0,none⟩) (k+1) c).ownBlock≠some R:=fun e=>(OBS.out R (OBk.out.symm.trans e)).2 rfl
      have nS:(Value.slice (some ⟨g,0,none⟩) (k+1) c).ownBlock≠some S:=fun e=>(OBS.out S (OBk.out.symm.trans e)).1 rfl
      have nB:R≠B∧S≠B:=⟨fun e=>hBS.2 e.symm,fun e=>hBS.1 e.symm⟩
      have lR:=World.block_lt_of_cell? _ _ r0
      replace f0:=(b'.frozK (p:=⟨R,0,none⟩) lR nB.1 nR).trans f0
      replace f1:=(b'.frozK (p:=⟨R,1,none⟩) lR nB.1 nR).trans f1
      replace f2:=(b'.frozK (p:=⟨R,2,none⟩) lR nB.1 nR).trans f2
      replace r0:=b'.cellK r0 nB.1 nR
      replace r1:=b'.cellK r1 nB.1 nR
      replace r2:=b'.cellK r2 nB.1 nR
      replace s0:=b'.cellK s0 nB.2 nS
      replace s1:=b'.cellK s1 nB.2 nS
      replace s2:=b'.cellK s2 nB.2 nS
      have H3:=hidd h'
      have HP3:Hid (Hp L''.length L''.toArray):=hidd (by rw [hl];exact hp')
      have OB3:=hidd (ob'.trans OBk.out)
      have BQ3:=hidd (BQN.out.trans b' (.inl OBk.out))
      have IN3:Hid ((∀ y∈L'',y∈L∧y≤x')∧(∀ y∈L,y=x'∨y∈L'')):=hidd ⟨fun y hy=>INk.out.1 y (hperm.mem_iff.2 (List.mem_cons_of_mem _ hy)),fun y hy=>(INk.out.2 y hy).elim .inl fun h=>List.mem_cons.1 (hperm.mem_iff.1 h)⟩
      obtain ⟨p3,c3,e3⟩:=h'.any
      have M3:=cellLen_of (by rw [← e3];exact h'.cell)
      rw [hl] at M3
      have M0:=hidd (cellLen_of hcB0.out)
      have M3:=hidd M3
      clear PO2 h' hp' ob' b' hperm hx' BQN e3 HA HPk INk OBk BQ
      go_wp2_with fail
      go_roundw
      case rel=>exact ⟨L'',v'',by omega,H3,HP3,IN3,OB3,BQ3,⟨r0,r1,r2⟩,⟨f0,f1,f2⟩,s0,s1,s2⟩
      case measure=>rw [M0.out,M3.out];omega
    · have FI0:∀ y∈Lk,y < x:=fun y hy=>by
       have h1:=TOP.out y hy
       have h2:=(INk.out.1 t (List.mem_of_getElem? HT.out)).2
       omega
      have FI:=hidd (FIN.out FI0)
      have hne:¬ (sp0 t=sp0 x∧sp1 t=sp1 x∧sp2 t=sp2 x):=fun h=>hx (sp_ext h.1 h.2.1 h.2.2)
      clear FIN FI0 TOP HT hx
      generalize sp0 t=z0 at *
      generalize sp1 t=z1 at *
      generalize sp2 t=z2 at *
      by_cases c0:z0=sp0 x
      · by_cases c1:z1=sp1 x
        · have c2':(z2 == sp2 x)=false:=by simpa using fun e=>hne ⟨c0,c1,e⟩
          rw [c0] at a0
          rw [c1] at a1
          clear hne c0 c1
          go_wp2_with fail
          go_quiet (fail)
          have bN:=belowN (Below.refl wr.heap.size wr) nq
          obtain ⟨t0,t1,t2,L',v',k⟩:=FI.out _ bN
          have K:=hidd k
          clear FI k
          go_wp2_with fail
          exact bodyPost_ret (v:=.agg #[.int .i64 (sp0 x),.int .i64 (sp1 x),.int .i64 (sp2 x)]) (by simp [results,Tryz.results137,go_sem,t0,t1,t2]) rfl ⟨x,L',v',rfl,IN.out.2.2,K.out⟩
        · have c1':(z1 == sp1 x)=false:=by simpa using c1
          rw [c0] at a0
          clear hne c0 c1
          go_wp2_with fail
          go_quiet (fail)
          have bN:=belowN (Below.refl wr.heap.size wr) nq
          obtain ⟨t0,t1,t2,L',v',k⟩:=FI.out _ bN
          have K:=hidd k
          clear FI k
          go_wp2_with fail
          exact bodyPost_ret (v:=.agg #[.int .i64 (sp0 x),.int .i64 (sp1 x),.int .i64 (sp2 x)]) (by simp [results,Tryz.results137,go_sem,t0,t1,t2]) rfl ⟨x,L',v',rfl,IN.out.2.2,K.out⟩
      · have c0':(z0 == sp0 x)=false:=by simpa using c0
        clear hne c0
        go_wp2_with fail
        go_quiet (fail)
        have bN:=belowN (Below.refl wr.heap.size wr) nq
        obtain ⟨t0,t1,t2,L',v',k⟩:=FI.out _ bN
        have K:=hidd k
        clear FI k
        go_wp2_with fail
        exact bodyPost_ret (v:=.agg #[.int .i64 (sp0 x),.int .i64 (sp1 x),.int .i64 (sp2 x)]) (by simp [results,Tryz.results137,go_sem,t0,t1,t2]) rfl ⟨x,L',v',rfl,IN.out.2.2,K.out⟩
end Go.Proofs.YtdklpgphmoaniaaGreatDoor
namespace Go.Proofs.YtdklpgphmoaniaaGreatDoor
section
open Go.RowKit Go
def Two2 (k:Nat) (W W':World):Prop:=∀ i,i=k∨i=k+1→W'.heap[i]?=W.heap[i]?
theorem Two2.trans {k:Nat} {X Y Z:World} (h:Two2 k X Y) (h':Two2 k Y Z):Two2 k X Z:=fun i hi=>(h' i hi).trans (h i hi)
def rsPost {σ:Type} (k:Nat) (I:σ→World→Prop) (lt:σ→Prop) (Ix:Code→World→Prop) (W:World):Exit→Act→World→Prop
 | .normal,_,W'=>Two2 k W W'∧∃ s',lt s'∧I s' W'
 | .ret,_,W'=>Two2 k W W'∧Ix .ret W'
 | .exit id,_,W'=>Two2 k W W'∧Ix (.exit id) W'
 | .goto t,_,W'=>Two2 k W W'∧Ix (.goto t) W'
 | .panic _,_,_=>False
 | .outgrown,_,_=>False
def SeqS {α σ:Type} (F:Fence) (n:Nat) (P:Program) (g:Nat) (pb lb:Array Value) (encs:α→Array Value) (Q:σ→World→Prop) (N:σ→α→World→World→Prop) (E:σ→Prop) (μ:σ→Nat):Prop :=
 ∀ (l:Nat) (J:σ→World→Prop) (Jx:World→Prop),(∀ s W,J s W→Q s W) →
  (∀ s x W W1,J s W→N s x W W1→YieldAt F (n - 1) P l (encs x) W1 fun e W'=>(e=.returned (.bool true)∧∃ s',μ s' < μ s∧J s' W')∨(e=.returned (.bool false)∧Jx W')) →
  ∀ s W,J s W→CallsIn F n P g (pb++#[.func (.yield l) #[] #[]]++lb) W fun e W'=>(∃ v,e=.returned v)∧((∃ s,E s∧J s W')∨Jx W')
theorem put_grown (W:World) (l:Nat) (o:Obj):W.grownBy (W.putObj l o) (some l):=grownBy_putObj' W l o
variable {F:Fence} {n:Nat} {P:Program}
theorem rf_state {α σ:Type} {g:Operand} {ps:Array Tmp} {assign body:Code} {Q:Exit→Act→World→Prop} {a:Act} {w:World}
 (hro:F.round=none) (h1:1≤n) {gf:Nat} {pb lb:Array Value} (hg:a.eval g=.func (.func gf) pb lb) (hFg:F.fn gf) (eg:∀ args w,(callFunc gf args).run P w=.ok (.enter gf args) w)
 {encs:α→Array Value} {R:σ→World→Prop} {N:σ→α→World→World→Prop} {E:σ→Prop} {μ:σ→Nat} (hseq:SeqS F (n - 1) P gf pb lb encs R N E μ) (hps:∀ x,(encs x).size=ps.size)
 (I:σ→World→Prop) (Ix:Code→World→Prop) (hIR:∀ s W,I s W→R s W) (hI:∀ s A C,I s A→A.grownBy C (some (w.heap.size+1))→w.heap.size+2≤A.heap.size→I s C) (hIx:∀ c A C,Ix c A→A.grownBy C (some (w.heap.size+1))→w.heap.size+2≤A.heap.size→Ix c C)
 (s0:σ) (h0:∀ W,Below w.heap.size w W→w.heap.size+2≤W.heap.size→I s0 W) (hN:∀ s x A C,I s A→N s x A C→w.heap.size+2≤A.heap.size→Two2 w.heap.size A C∧A.heap.size≤C.heap.size)
 (Ax:Nat→α→Act→World→Prop) (hAx:∀ m x a' A B,w.heap.size+2≤m→Ax m x a' A→A.grownBy B (some (w.heap.size+1))→Ax m x a' B)
 (hassign:∀ (l:Nat) (x:α) (W:World) (K:Act→World→Prop),w.heap.size+2≤W.heap.size→(∀ a' W',Ax W.heap.size x a' W'→Below W.heap.size W W'→K a' W') →
   assign.wpIn (F.inRound l) (n - 1 - 1) P (Exit.then K (fun _ _ _=>False)) { tmps:=(ps.zip (encs x)).foldl (fun t (p,v)=>t.setIfInBounds p v) a.tmps,defers:=[] } W)
 (hbody:∀ (l:Nat) (s:σ) (x:α) (a':Act) (A C X:World),I s A→w.heap.size+2≤A.heap.size→N s x A C→C.grownBy X (some (w.heap.size+1))→Ax C.heap.size x a' X→body.wpIn (F.inRound l) (n - 1 - 1) P (rsPost w.heap.size I (fun s'=>μ s' < μ s) Ix X) a' X)
 (hdone:∀ (s:σ) (W:World),E s→I s W→w.heap.size+2≤W.heap.size→W.heap[w.heap.size]?=some (.deferred (some []))→Q .normal { a with defers:={ target:=.collected w.heap.size,args:=#[] } :: a.defers } W)
 (hstop:∀ (c:Code) (W:World),Ix c W→w.heap.size+2≤W.heap.size→W.heap[w.heap.size]?=some (.deferred (some []))→c.wpIn F n P Q { a with defers:={ target:=.collected w.heap.size,args:=#[] } :: a.defers } W) :
 (Code.rangeFunc g ps assign body).wpIn F n P Q a w:=by
 apply wpIn_rangeFunc
 intro fn hfn
 rw [hro]
 obtain ⟨R',hR⟩:∃ R':LoopState→Option Code→Loop,R'=fun st pe=>{ state:=st,pending:=pe,fn,tmps:=a.tmps,params:=ps,assign,body,defers:=w.heap.size }:=⟨_,rfl⟩
 have hen:=run_enterLoop_outer (P:=P) (w:=w) fn a.tmps ps assign body
 rw [show ({ state:=.ready,pending:=none,fn,tmps:=a.tmps,params:=ps,assign,body,defers:=w.heap.size }:Loop)=R' .ready none by rw [hR]] at hen
 have hsz:((w.alloc (.deferred (some []))).alloc (.loop (R' .ready none))).heap.size=w.heap.size+2:=by simp
 have hl0:((w.alloc (.deferred (some []))).alloc (.loop (R' .ready none))).heap[w.heap.size+1]?=some (.loop (R' .ready none)):=by
  have:=World.alloc_heap_new (w.alloc (.deferred (some []))) (.loop (R' .ready none));rwa [World.size_alloc] at this
 have hk0:((w.alloc (.deferred (some []))).alloc (.loop (R' .ready none))).heap[w.heap.size]?=some (.deferred (some [])) :=
  (Below.heap_alloc _ _ _ (by simp)).trans (World.alloc_heap_new w _)
 have hB0:Below w.heap.size w ((w.alloc (.deferred (some []))).alloc (.loop (R' .ready none))):=((Below.refl _ w).alloc (Nat.le_refl _) _).alloc (by simp) _
 generalize (w.alloc (.deferred (some []))).alloc (.loop (R' .ready none))=W1 at hen hsz hl0 hk0 hB0
 have hI0:I s0 W1:=h0 _ hB0 (by omega)
 refine ⟨w.heap.size+1,_,W1,{ target:=.fn (.func gf) lb,args:=pb++#[.func (.yield (w.heap.size+1)) #[] #[]] },W1,gf,pb++#[.func (.yield (w.heap.size+1)) #[] #[]]++lb,W1,hen,?_,?_,?_,fun _=>h1,?_⟩
 · simp only [resolve,hg]
   simp [go_sem]
 · intro f' hf';simp [Target.leads] at hf';subst hf';exact hFg
 · simp [invoke,go_sem,eg]
 refine (hseq (w.heap.size+1)
  (fun s W=>I s W∧W.heap[w.heap.size+1]?=some (.loop (R' .ready none))∧W.heap[w.heap.size]?=some (.deferred (some [])))
  (fun W=>∃ c,Ix c W∧W.heap[w.heap.size+1]?=some (.loop (R' .done (some c)))∧W.heap[w.heap.size]?=some (.deferred (some [])))
  (fun s W h=>hIR s W h.1) ?round s0 W1 ⟨hI0,hl0,hk0⟩).mono ?behind
 case round =>
  rintro s x A C ⟨hi,hlA,hkA⟩ hNx
  have hsA:w.heap.size+2≤A.heap.size:=by have:=(Array.getElem?_eq_some_iff.1 hlA).1;omega
  have hT:=hN s x A C hi hNx hsA
  have hl:=(hT.1 (w.heap.size+1) (.inr rfl)).trans hlA
  have hk:=(hT.1 w.heap.size (.inl rfl)).trans hkA
  have hsC:w.heap.size+2≤C.heap.size:=by have:=hT.2;omega
  have hy:=run_yield (P:=P) (args:=encs x) hl (by rw [hR];exact hps x)
  rw [hR] at hy
  refine ⟨fn,_,assign,body,hy,roundIn_of_wpIn hfn (hassign _ x C _ hsC fun a' W hax hba=>?_)⟩
  replace hl:=(hba.block _ (by omega)).trans hl
  replace hk:=(hba.block _ (by omega)).trans hk
  refine ⟨_,run_beginRound hl (by rw [hR]),?_⟩
  have hg1:=put_grown W (w.heap.size+1) (.loop { R' .ready none with state:=.busy })
  have hsW:w.heap.size+2≤W.heap.size:=Nat.le_trans hsC hba.size
  have hl1:(W.putObj (w.heap.size+1) (.loop { R' .ready none with state:=.busy })).heap[w.heap.size+1]?=some (.loop { R' .ready none with state:=.busy }):=World.putObj_heap_same (by omega)
  have hk1:(W.putObj (w.heap.size+1) (.loop { R' .ready none with state:=.busy })).heap[w.heap.size]?=some (.deferred (some [])):=(World.putObj_heap_other (by omega)).trans hk
  have hsX:w.heap.size+2≤(W.putObj (w.heap.size+1) (.loop { R' .ready none with state:=.busy })).heap.size:=by simp;omega
  generalize W.putObj (w.heap.size+1) (.loop { R' .ready none with state:=.busy })=X at hg1 hl1 hk1 hsX ⊢
  have hcx:C.grownBy X (some (w.heap.size+1)):=⟨hg1.os.trans hba.os,hg1.tape.trans hba.tape,hg1.output.trans hba.output,Nat.le_trans hba.size hg1.size,fun i hi hne=>(hg1.block i (Nat.lt_of_lt_of_le hi hba.size) hne).trans (hba.block i hi)⟩
  refine wpIn_mono (hbody _ s x a' A C X hi hsA hNx hcx (hAx _ _ _ _ _ hsC hax hg1)) ?_
  have fin:∀ (j:Option Code) (Y:World),Two2 w.heap.size X Y →
   (Instr.endRound (w.heap.size+1) j).run P Y=.ok (.bool j.isNone) (Y.putObj (w.heap.size+1) (.loop (R' (if j.isNone then .ready else .done) j))) ∧
   Y.grownBy (Y.putObj (w.heap.size+1) (.loop (R' (if j.isNone then .ready else .done) j))) (some (w.heap.size+1))∧w.heap.size+2≤Y.heap.size ∧
   (Y.putObj (w.heap.size+1) (.loop (R' (if j.isNone then .ready else .done) j))).heap[w.heap.size+1]?=some (.loop (R' (if j.isNone then .ready else .done) j)) ∧
   (Y.putObj (w.heap.size+1) (.loop (R' (if j.isNone then .ready else .done) j))).heap[w.heap.size]?=some (.deferred (some [])):=by
   intro j Y hY
   have hlY:=(hY (w.heap.size+1) (.inr rfl)).trans hl1
   have hlt:w.heap.size+1 < Y.heap.size:=(Array.getElem?_eq_some_iff.1 hlY).1
   have hr:=run_endRound (P:=P) j hlY
   rw [hR] at hr ⊢
   exact ⟨hr,put_grown Y _ _,by omega,World.putObj_heap_same hlt,(World.putObj_heap_other (by omega)).trans ((hY w.heap.size (.inl rfl)).trans hk1)⟩
  rintro e a3 Y hp
  cases e with
  | normal =>
   obtain ⟨hTY,s',hlt,hiY⟩:=hp
   obtain ⟨hr,hb2,hs2,hl2,hk2⟩:=fin none Y hTY
   exact ⟨_,_,hr,.inl ⟨rfl,s',hlt,hI _ _ _ hiY hb2 hs2,hl2,hk2⟩⟩
  | ret =>
   obtain ⟨hTY,hiY⟩:=hp
   obtain ⟨hr,hb2,hs2,hl2,hk2⟩:=fin (some .ret) Y hTY
   exact ⟨_,_,hr,.inr ⟨rfl,.ret,hIx _ _ _ hiY hb2 hs2,hl2,hk2⟩⟩
  | exit id =>
   obtain ⟨hTY,hiY⟩:=hp
   obtain ⟨hr,hb2,hs2,hl2,hk2⟩:=fin (some (.exit id)) Y hTY
   exact ⟨_,_,hr,.inr ⟨rfl,.exit id,hIx _ _ _ hiY hb2 hs2,hl2,hk2⟩⟩
  | goto t =>
   obtain ⟨hTY,hiY⟩:=hp
   obtain ⟨hr,hb2,hs2,hl2,hk2⟩:=fin (some (.goto t)) Y hTY
   exact ⟨_,_,hr,.inr ⟨rfl,.goto t,hIx _ _ _ hiY hb2 hs2,hl2,hk2⟩⟩
  | panic ch=>exact hp.elim
  | outgrown=>exact hp.elim
 case behind =>
  rintro e Y ⟨⟨v,rfl⟩,(⟨s,hE,hi,hl,hk⟩ | ⟨c,hi,hl,hk⟩)⟩
  · have hlt:w.heap.size+1 < Y.heap.size:=(Array.getElem?_eq_some_iff.1 hl).1
    refine ⟨none,_,by have:=run_endLoop (P:=P) hl (by rw [hR];simp);rw [hR] at this;exact this,?_⟩
    exact hdone s _ hE (hI _ _ _ hi (put_grown Y _ _) (by omega)) (by simp;omega) ((World.putObj_heap_other (by omega)).trans hk)
  · have hlt:w.heap.size+1 < Y.heap.size:=(Array.getElem?_eq_some_iff.1 hl).1
    refine ⟨some c,_,by have:=run_endLoop (P:=P) hl (by rw [hR];simp);rw [hR] at this;exact this,?_⟩
    exact hstop c _ (hIx c _ _ hi (put_grown Y _ _) (by omega)) (by simp;omega) ((World.putObj_heap_other (by omega)).trans hk)
theorem mark_leaves {fn:Func} {tmps:Array Value} {S:Ending→World→Prop} {D:Nat} {W:World} (hd:W.heap[D]?=some (.deferred (some [])))
 (h0:LeavesInM F n P fn tmps S [] .returning (W.putObj D (.deferred none))):LeavesInM F n P fn tmps S [{ target:=.collected D,args:=#[] }] .returning W :=
 ⟨by simp,.inl ⟨D,_,rfl,run_takeDeferred hd,h0⟩⟩
end
end Go.Proofs.YtdklpgphmoaniaaGreatDoor
