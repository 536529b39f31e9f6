/-
  The library's breaking of patterns in a row of words, at this program: the part of the row has the same words as before, in whatever order; in whatever memory.
-/
import Derived.Test.YtbnlhdnnenahfaaGreatDoorI1Y
import Derived.Test.YtbnlhdnnenahfaaGreatDoorS23Y
import Derived.Shelf.Small.Bits
set_option maxHeartbeats 4000000
set_option maxRecDepth 100000
namespace Go.Proofs.YtbnlhdnnenahfaaGreatDoor
open Go.RowKit Go.Shelf
def Tag (g:Nat)(w w':World):Prop:=∀c e fr,w.heap[g]?=some (.cells c e fr)->∃c',c'.size=c.size/\w'.heap[g]?=some (.cells c' e fr)
theorem Tag.refl (g:Nat)(w:World):Tag g w w:=fun c _ _ h=>⟨c,rfl,h⟩
theorem Tag.trans {g:Nat}{a b c:World}(h:Tag g a b)(k:Tag g b c):Tag g a c:=fun x e fr hx=>by
 obtain⟨y,hy,h1⟩:=h x e fr hx;obtain⟨z,hz,h2⟩:=k y e fr h1;exact⟨z,hz.trans hy,h2⟩
theorem Tag.below {g B:Nat}{a b:World}(h:Below B a b)(hg:g<B):Tag g a b:=fun c e fr hc=>⟨c,rfl,by rw[h.block g hg];exact hc⟩
theorem Tag.draws {g:Nat}{a b:World}(h:Tag g a b)(q:Nat):Tag g a (b.drewN q):=h
theorem vz (w:World)(g off n:Nat)(d:Array Int):Tag g w (Sort.putRow (Value.int .u64) (Sort.ahead w n) g off d):=fun c e fr hc=>by
 refine⟨Sort.putCells (Value.int .u64) off d c,by simp[Sort.putCells],?_⟩;show(w.heap.modify g _)[g]?=_
 rw[Array.getElem?_modify,if_pos rfl,hc];rfl
theorem Ar {w w':World}{g off:Nat}{d0 d:Array Int}(hg:g<w.heap.size)(h:St w g off d0 d w'):Tag g w w':=by
 obtain⟨n,os,rfl⟩:=h.2;intro c e fr hc;obtain⟨c',h1,h2⟩:=vz w g off n d c e fr hc;refine⟨c',h1,?_⟩;rw[Sort.heap_grow_old _ _ (by simp[Sort.putRow,Sort.mapBlock,Sort.ahead];omega)];exact h2
def Rw (w:World)(g off:Nat)(d0 d:Array Int)(w':World):Prop:=d.size=d0.size/\Sort.Holds (Value.int .u64) w' g off d/\Below g w w'/\Tag g w w'
theorem Dz {w w':World}{g off:Nat}{d0 d:Array Int}(hg:g<w.heap.size)(h:St w g off d0 d w'):Below g w w':=by
 obtain⟨n,os,rfl⟩:=h.2;refine⟨rfl,rfl,rfl,?_,fun k hk=>?_⟩
 · simp[Sort.grow,Sort.putRow,Sort.mapBlock,Sort.ahead]
 · have h1:(Sort.grow (Sort.putRow (Value.int .u64) (Sort.ahead w n) g off d) os).heap=(Sort.putRow (Value.int .u64) (Sort.ahead w n) g off d).heap++os:=rfl;rw[h1,Array.getElem?_append_left (by simp[Sort.putRow,Sort.mapBlock,Sort.ahead];omega)];show(w.heap.modify g _)[k]?=_
   rw[Array.getElem?_modify,if_neg (by omega)]
theorem Rw.refl {w:World}{g off:Nat}{d:Array Int}(h:Sort.Holds (Value.int .u64) w g off d):Rw w g off d d w:=⟨rfl,h,Below.refl _ _,Tag.refl _ _⟩
theorem Rw.of_st {w w':World}{g off:Nat}{d0 d:Array Int}(h0:Sort.Holds (Value.int .u64) w g off d0)(hg:g<w.heap.size)(h:St w g off d0 d w'):Rw w g off d0 d w':=⟨h.1,(h.hold h0 hg).1,Dz hg h,Ar hg h⟩
theorem Rw.trans {w w' w2:World}{g off:Nat}{d0 d d2:Array Int}(h:Rw w g off d0 d w')(h2:Rw w' g off d d2 w2):Rw w g off d0 d2 w2:=⟨h2.1.trans h.1,h2.2.1,h.2.2.1.trans h2.2.2.1,h.2.2.2.trans h2.2.2.2⟩
theorem Rw.size {w w':World}{g off:Nat}{d0 d:Array Int}(h:Rw w g off d0 d w')(hg:g<w.heap.size):g<w'.heap.size:=Nat.lt_of_lt_of_le hg h.2.2.1.size
theorem Rw.below {w w' w2:World}{g off B:Nat}{d0 d:Array Int}(h:Rw w g off d0 d w')(hb:Below B w' w2)(hB:g<B):Rw w g off d0 d w2:=⟨h.1,cu h.2.1 hb hB,h.2.2.1.trans (hb.mono (by omega)),h.2.2.2.trans (Tag.below hb hB)⟩
theorem Rw.fam {w w':World}{g off:Nat}{d0 d:Array Int}(h:Rw w g off d0 d w') :
 ∃G:Nat->Int,(∀t,G t=d[t]!)/\(∀t,t<d0.size->w'.cell? ⟨g,off+t,none⟩=some (.int .u64 (G t)))/\∀t,t<d0.size->w'.frozen? ⟨g,off+t,none⟩=false:=by
 rw[←h.1];exact ri h.2.1
theorem Rw.swap {w w':World}{g off:Nat}{d0 d:Array Int}(h:Rw w g off d0 d w')(hg:g<w.heap.size){G:Nat->Int}(hG:∀t,G t=d[t]!){j k:Nat}(hj:j<d0.size)(hk:k<d0.size)(q:Nat) :
 Rw w g off d0 (Sort.swp d j k) (((w'.drewN q).setCell ⟨g,off+j,none⟩ (.int .u64 (G k))).setCell ⟨g,off+k,none⟩ (.int .u64 (G j))) :=
 h.trans (Rw.of_st h.2.1 (h.size hg) ((St.refl h.2.1).swap h.2.1 (h.size hg) hG (by rw[h.1];exact hj) (by rw[h.1];exact hk) q))
theorem Rw.drawn {w w':World}{g off:Nat}{d0 d:Array Int}(h:Rw w g off d0 d w')(q:Nat):Rw w g off d0 d (w'.drewN q):=⟨h.1,h.2.1,aB h.2.2.1 q,h.2.2.2.draws q⟩
def Tryz.lays125_ren:Go.Shelf.Ren:=⟨fun | 125=>152 | 128=>196 | 129=>197 | n=>n,fun | 46=>73 | 3=>3 | 51=>243 | 53=>35 | 4=>4 | 5=>5 | 9=>9 | n=>n,fun | n=>n⟩
theorem Tryz.lays125:Go.Proofs.Lays.n125 Tryz.prog Tryz.lays125_ren:={
 mixed:=by kernel_rfl,
 f125:=Tryz.func152.trans (congrArg some (by kernel_rfl)),
 f128:=Tryz.func196.trans (congrArg some (by kernel_rfl)),
 f129:=Tryz.func197.trans (congrArg some (by kernel_rfl)),
 t3:=Tryz.underlying3,
 a3:=Tryz.isAgg3,
 z3:=Tryz.sizeOf3,
 v3:=Tryz.zeroValue3,
 t4:=Tryz.underlying4,
 a4:=Tryz.isAgg4,
 z4:=Tryz.sizeOf4,
 v4:=Tryz.zeroValue4,
 t5:=Tryz.underlying5,
 a5:=Tryz.isAgg5,
 z5:=Tryz.sizeOf5,
 v5:=Tryz.zeroValue5,
 t9:=Tryz.underlying9,
 a9:=Tryz.isAgg9,
 z9:=Tryz.sizeOf9,
 v9:=Tryz.zeroValue9,
 t46:=Tryz.underlying73,
 a46:=Tryz.isAgg73,
 z46:=Tryz.sizeOf73,
 v46:=Tryz.zeroValue73,
 t51:=Tryz.underlying243,
 a51:=Tryz.isAgg243,
 z51:=Tryz.sizeOf243,
 v51:=Tryz.zeroValue243,
 t53:=Tryz.underlying35,
 a53:=Tryz.isAgg35,
 z53:=Tryz.sizeOf35,
 v53:=Tryz.zeroValue35 }
theorem mg (x:Int)(w:World)(h0:0<=x)(h1:x<=18446744073709551615) :
 Calls Tryz.prog 152 #[.int .u64 x] w fun e w'=>e=.returned (.int .i64 (Lib.bitLen x.toNat))/\w'=w:=Any.bits_Len Tryz.lays125 x w h0 h1
theorem jo:∀(f x:Nat),x<2^f->f<=64->Lib.bitLen x<=f/\x<2^Lib.bitLen x/\(1<=x->2^Lib.bitLen x<=2*x)
 | 0,x,h,_=>by
  obtain rfl:x=0:=by simpa using h
  decide
 | f+1,x,h,hf=>by
  by_cases h0:x=0
  · subst h0;have h1:Lib.bitLen 0=0:=by decide
    rw[h1];omega
  · have h64:x<2^64:=Nat.lt_of_lt_of_le h (Nat.pow_le_pow_right (by omega) hf);have ih:=jo f (x / 2) (by rw[Nat.pow_succ]at h;omega) (by omega);rw[Lib.bitLen_half x h0 h64,Nat.add_comm,Nat.pow_succ];refine⟨by omega,by omega,fun _=>?_⟩;by_cases h2:x / 2=0
    · rw[h2,show Lib.bitLen 0=0 by decide];omega
    · have:=ih.2.2 (by omega);omega
theorem IS (n:Nat)(h1:1<=n)(h2:n<4611686018427387904):∃M:Nat,n<M/\M<=2*n/\∀w,Calls Tryz.prog 219 #[.int .i64 n] w fun e w'=>e=.returned (.int .u64 M)/\w'=w:=by
 have hb:=jo 62 n (by omega) (by omega);obtain⟨k,hk⟩:∃k,Lib.bitLen n=k:=⟨_,rfl⟩
 rw[hk]at hb;refine⟨2^k,hb.2.1,hb.2.2 h1,fun w=>?_⟩;have L:∀w,Calls Tryz.prog 152 #[.int .u64 n] w fun e w'=>e=.returned (.int .i64 (k:Int))/\w'=w:=fun w=>by
  have:=mg (n:Int) w (by omega) (by omega);rw[show((n:Int)).toNat=n by omega,hk]at this;exact this
 have k62:k<=62:=hb.1;obtain⟨M,hM⟩:∃M:Nat,2^k=M:=⟨_,rfl⟩
 have HM:Hid (2^k=M):=hM;have hM2:M<=2*n:=by rw[←hM];exact hb.2.2 h1
 clear hM;replace hk:Hid _:=hk;clear hb
 go_enter Tryz.func219,Tryz.ntmps219
 go_wp2_with (first | (go_at_call 152;refine(L _).mono ?_;rintro e w' ⟨rfl,rfl⟩))
 have e:IntKind.u64.wrap ((2:Int)^k)=((2^k:Nat):Int):=by
  have hp:((2:Int)^k)=((2^k:Nat):Int):=by simp
  rw[hp,HM.out];exact di ⟨by omega,by omega⟩
 rw[e];go_ret;exact⟨rfl,rfl⟩
theorem vB (x:Int):U64 (IntKind.u64.wrap x):=by rw[IntKind.wrap_u64];unfold U64;omega
theorem IJ (B:Nat)(r:Int)(hr:U64 r)(w:World)(hc:w.cell? ⟨B,0,none⟩=some (.int .u64 r))(hf:w.frozen? ⟨B,0,none⟩=false) :
 Calls Tryz.prog 220 #[.pointer (some ⟨B,0,none⟩)] w fun e w'=>∃x:Nat,e=.returned (.int .u64 x)/\x<18446744073709551616/\w'.cell? ⟨B,0,none⟩=some (.int .u64 x)/\w'.frozen? ⟨B,0,none⟩=false/\Below B w w':=by
 go_enter Tryz.func220,Tryz.ntmps220
 have U1:U64 (bits .xor .u64 r (IntKind.u64.wrap (r*8192))):=i8 hr (vB _);have C1:((w.setCell ⟨B,0,none⟩ (.int .u64 (bits .xor .u64 r (IntKind.u64.wrap (r*8192))))).drew).cell? ⟨B,0,none⟩=some (.int .u64 (bits .xor .u64 r (IntKind.u64.wrap (r*8192)))):=World.cell?_setCell_same _ _ _ hc;have F1:((w.setCell ⟨B,0,none⟩ (.int .u64 (bits .xor .u64 r (IntKind.u64.wrap (r*8192))))).drew).frozen? ⟨B,0,none⟩=false:=by go_simp
 have B1:Below B w ((w.setCell ⟨B,0,none⟩ (.int .u64 (bits .xor .u64 r (IntKind.u64.wrap (r*8192))))).drew):=(Below.setCell (p:=⟨B,0,none⟩) (Below.refl B w) (Nat.le_refl B) _).drew;go_wp2_with fail
 go_region
 clear hc hf;generalize bits .xor .u64 r (IntKind.u64.wrap (r*8192))=x1 at U1 C1 F1 B1 ⊢;generalize (w.setCell ⟨B,0,none⟩ (.int .u64 x1)).drew=W1 at C1 F1 B1 ⊢;have U2:U64 (bits .xor .u64 x1 (x1 / 128)):=i8 U1 (cO U1 (by omega));have C2:((W1.setCell ⟨B,0,none⟩ (.int .u64 (bits .xor .u64 x1 (x1 / 128)))).drew).cell? ⟨B,0,none⟩=some (.int .u64 (bits .xor .u64 x1 (x1 / 128))):=World.cell?_setCell_same _ _ _ C1;have F2:((W1.setCell ⟨B,0,none⟩ (.int .u64 (bits .xor .u64 x1 (x1 / 128)))).drew).frozen? ⟨B,0,none⟩=false:=by go_simp
 have B2:Below B w ((W1.setCell ⟨B,0,none⟩ (.int .u64 (bits .xor .u64 x1 (x1 / 128)))).drew):=(Below.setCell (p:=⟨B,0,none⟩) B1 (Nat.le_refl B) _).drew;go_wp2_with fail
 go_region
 generalize bits .xor .u64 x1 (x1 / 128)=x2 at U2 C2 F2 B2 ⊢;generalize (W1.setCell ⟨B,0,none⟩ (.int .u64 x2)).drew=W2 at C2 F2 B2 ⊢;clear C1 F1 U1 B1;have U3:U64 (bits .xor .u64 x2 (IntKind.u64.wrap (x2*131072))):=i8 U2 (vB _);have C3:((W2.setCell ⟨B,0,none⟩ (.int .u64 (bits .xor .u64 x2 (IntKind.u64.wrap (x2*131072))))).drew).cell? ⟨B,0,none⟩=some (.int .u64 (bits .xor .u64 x2 (IntKind.u64.wrap (x2*131072)))):=World.cell?_setCell_same _ _ _ C2;have F3:((W2.setCell ⟨B,0,none⟩ (.int .u64 (bits .xor .u64 x2 (IntKind.u64.wrap (x2*131072))))).drew).frozen? ⟨B,0,none⟩=false:=by go_simp
 have B3:Below B w ((W2.setCell ⟨B,0,none⟩ (.int .u64 (bits .xor .u64 x2 (IntKind.u64.wrap (x2*131072))))).drew):=(Below.setCell (p:=⟨B,0,none⟩) B2 (Nat.le_refl B) _).drew;go_wp2_with fail
 go_region
 generalize bits .xor .u64 x2 (IntKind.u64.wrap (x2*131072))=x3 at U3 C3 F3 B3 ⊢;generalize (W2.setCell ⟨B,0,none⟩ (.int .u64 x3)).drew=W3 at C3 F3 B3 ⊢;clear C2 F2 U2 B2;obtain⟨x,rfl⟩:∃x:Nat,x3=x:=⟨x3.toNat,by have:=U3.1;omega⟩
 go_wp2;go_ret;exact⟨x,rfl,by have:=U3.2;omega,C3,F3,B3⟩
theorem yl (x M:Nat)(hx:x<18446744073709551616)(h1:1<=M)(hM:M<18446744073709551616):∃O:Nat,O<M/\bits .and .u64 (x:Int) ((M:Int)-1)=(O:Int) :=
 ⟨x &&& (M-1),by have:=Nat.and_le_right (n:=x) (m:=M-1);omega,by rw[show((M:Int)-1)=((M-1:Nat):Int)by omega,bits_and_u64_nat _ _ hx (by omega)]⟩
theorem JG (g off cap a b n:Nat)(d:Array Int)(hn:d.size=n)(w:World)(hH:Sort.Holds (Value.int .u64) w g off d)(hg:g<w.heap.size)(hab:a<=b)(hb:b<=n)(hsz:n<4611686018427387904) :
 Calls Tryz.prog 190 #[.slice (some ⟨g,off,none⟩) n cap,.int .i64 a,.int .i64 b] w fun e w'=>e=.returned (.tuple #[])/\∃d',Sort.PermIn a b d d'/\Rw w g off d d' w':=by
 have H0:Hid (Sort.Holds (Value.int .u64) w g off d):=hH;have HN:Hid (d.size=n):=hn;clear hH hn;obtain⟨m,hm⟩:∃m,b-a=m:=⟨_,rfl⟩
 have EB:(b:Int)-(a:Int)=(m:Int):=by omega
 obtain⟨q,hq⟩:∃q,m / 4=q:=⟨_,rfl⟩
 have EQ:((m:Int)).tdiv 4=(q:Int):=by rw[←hq];rfl
 have S0:Hid (Rw w g off d d w):=Rw.refl H0.out;by_cases h8:8<=m
 · have h8z:decide (8<=(m:Int))=true:=decide_eq_true (by omega);obtain⟨M,hM1,hM2,hP⟩:=IS m (by omega) (by omega);replace hP:Hid _:=hP;have S1:Hid (Rw w g off d d (w.alloc (.cells #[.int .u64 m] 262))):=S0.out.below (ag w _) hg
   go_enter Tryz.func190,Tryz.ntmps190
   go_wp2_with (first | (go_at_call 219;refine(hP.out _).mono ?_;rintro e w' ⟨rfl,rfl⟩))
   go_loopw [9] (fun vi wr=>∃(i:Nat) (r:Int) (dk:Array Int),vi=.int .i64 i/\a+q*2<=i+1/\i<=a+q*2+2/\wr.cell? ⟨w.heap.size,0,none⟩=some (.int .u64 r)/\wr.frozen? ⟨w.heap.size,0,none⟩=false/\U64 r/\Hid (Rw w g off d dk wr/\Sort.PermIn a b d dk)) (fun vi _=>a+q*2+2-(intOf vi).toNat)
   case atStart=>exact⟨a+q*2-1,m,d,by congr 1;omega,by omega,by omega,by go_simp,by go_simp,⟨by omega,by omega⟩,S1.out,gy _ _ _⟩
   case round =>
    obtain⟨i,r,dk,rfl,hi1,hi2,hc,hf,hr,hS⟩:=hrel;clear S0 S1 hP;by_cases hi:i<=a+q*2+1
    · go_wp2_with fail;refine(IJ w.heap.size r hr wr hc hf).mono ?_;rintro e w1 ⟨x,rfl,hx,hc1,hf1,hb1⟩;have S1:Hid (Rw w g off d dk w1):=hS.out.1.below hb1 hg;have P1:Hid (Sort.PermIn a b d dk):=hS.out.2;clear hS hb1 hc hf;obtain⟨O,hO,eO⟩:=yl x M hx (by omega) (by omega);obtain⟨G,hG,hcw,hfw⟩:=S1.out.fam;rw[HN.out]at hcw hfw;have HG:Hid (∀t,G t=dk[t]!):=hG;clear hG;by_cases hOm:m<=O
      · have hOz:decide ((m:Int)<=(O:Int))=true:=decide_eq_true (by omega);have lk:a+(O-m)<n:=by omega
        have li:i<n:=by omega
        have P2:Hid (Sort.PermIn a b d (Sort.swp dk i (a+(O-m)))):=bj P1.out (cf _ _ _ _ _ (by omega) (by omega) (by omega) (by omega) (by rw[S1.out.1,HN.out];omega));have S2:Hid (Rw w g off d (Sort.swp dk i (a+(O-m))) (((w1.setCell ⟨g,off+i,none⟩ (.int .u64 (G (a+(O-m))))).setCell ⟨g,off+(a+(O-m)),none⟩ (.int .u64 (G i))).drew)):=S1.out.swap hg HG.out (by rw[HN.out];omega) (by rw[HN.out];omega) 1;obtain⟨y3,hy3⟩:=cell?_setCell_some (w:=w1) (p:=⟨g,off+i,none⟩) (x:=.int .u64 (G (a+(O-m)))) (q:=⟨g,off+(a+(O-m)),none⟩) (hcw _ (by omega));have hne:g≠w.heap.size:=by omega
        by_cases hEq:i=a+(O-m)
        all_goals
         go_wp2_with fail
         go_region
         all_goals go_wp2_with fail
         go_roundw
         case rel=>exact⟨i+1,x,_,by go_num,by omega,by omega,ah (ah hc1 (fun e=>hne (congrArg Addr.block e))) (fun e=>hne (congrArg Addr.block e)),by simp[hf1],⟨by omega,by omega⟩,by first | exact S2.out | (rw[hEq]at S2;exact S2.out),by first | exact P2.out | (rw[hEq]at P2;exact P2.out)⟩
         case measure=>simp[intOf];omega
      · have hOz:decide ((m:Int)<=(O:Int))=false:=df (by omega);have lk:a+O<n:=by omega
        have li:i<n:=by omega
        have P2:Hid (Sort.PermIn a b d (Sort.swp dk i (a+O))):=bj P1.out (cf _ _ _ _ _ (by omega) (by omega) (by omega) (by omega) (by rw[S1.out.1,HN.out];omega));have S2:Hid (Rw w g off d (Sort.swp dk i (a+O)) (((w1.setCell ⟨g,off+i,none⟩ (.int .u64 (G (a+O)))).setCell ⟨g,off+(a+O),none⟩ (.int .u64 (G i))).drew)):=S1.out.swap hg HG.out (by rw[HN.out];omega) (by rw[HN.out];omega) 1;obtain⟨y3,hy3⟩:=cell?_setCell_some (w:=w1) (p:=⟨g,off+i,none⟩) (x:=.int .u64 (G (a+O))) (q:=⟨g,off+(a+O),none⟩) (hcw _ (by omega));have hne:g≠w.heap.size:=by omega
        by_cases hEq:i=a+O
        all_goals
         go_wp2_with fail
         go_region
         all_goals go_wp2_with fail
         go_roundw
         case rel=>exact⟨i+1,x,_,by go_num,by omega,by omega,ah (ah hc1 (fun e=>hne (congrArg Addr.block e))) (fun e=>hne (congrArg Addr.block e)),by simp[hf1],⟨by omega,by omega⟩,by first | exact S2.out | (rw[hEq]at S2;exact S2.out),by first | exact P2.out | (rw[hEq]at P2;exact P2.out)⟩
         case measure=>simp[intOf];omega
    · go_wp2_with fail
      go_end0
      exact⟨rfl,dk,hS.out.2,hS.out.1⟩
 · have h8z:decide (8<=(m:Int))=false:=df (by omega)
   go_enter Tryz.func190,Tryz.ntmps190
   go_wp2_with fail
   go_end0
   exact⟨rfl,d,gy _ _ _,S0.out⟩
end Go.Proofs.YtbnlhdnnenahfaaGreatDoor
