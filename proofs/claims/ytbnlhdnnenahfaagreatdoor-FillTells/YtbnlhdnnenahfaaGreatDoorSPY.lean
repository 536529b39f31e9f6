/-
  What the texts SPdq, SortKit, RSeek say, so far as this seat's proofs need it.
-/
import Derived.Test.YtbnlhdnnenahfaaGreatDoorSBrkY
set_option maxHeartbeats 16000000
set_option maxRecDepth 100000
namespace Go.Proofs.YtbnlhdnnenahfaaGreatDoor
open Go.RowKit
def Ahead (a b:Nat)(d:Array Int):Prop:=a=0∨∀i,a<=i->i<b->d[a-1]!≤d[i]!
theorem Ahead.perm {a b:Nat}{d d':Array Int}(hb:b<=d.size)(h:Ahead a b d)(hp:Sort.PermIn a b d d'):Ahead a b d':=by
 by_cases ha:a=0
 · exact Or.inl ha
 · rcases h with h | h
   · exact absurd h ha
   · refine Or.inr (fZ (fun x=>d'[a-1]!≤x) hb hp ?_);rw[hp.2.1 (a-1) (by omega)];exact h
theorem Ahead.less {a b c:Nat}{d:Array Int}(h:Ahead a b d)(hc:c<=b):Ahead a c d:=h.imp id fun h i h1 h2=>h i h1 (by omega)
theorem Ahead.below {a b:Nat}{d:Array Int}(h:Ahead a b d):Sort.Below Sort.ltInt a b d:=h.imp id fun h i h1 h2=>Eb (by have:=h i h1 h2;omega)
theorem ew {d d':Array Int}{a b a' b':Nat}(h1:a'<=a)(h2:b<=b')(h3:b'<=d.size)(h:Sort.PermIn a b d d'):Sort.PermIn a' b' d d':=Sort.permIn_mono d d' a b a' b' h1 h2 h3 h
theorem xk {d:Array Int}{a b:Nat}(hab:a<b)(hb:b<=d.size)(h:Ahead a b d) :
 Sort.PermIn a b d (Sort.partialInsertionSort Sort.ltInt d a b).1/\((Sort.partialInsertionSort Sort.ltInt d a b).2=true->Sort.SortedIn Sort.ltInt a b (Sort.partialInsertionSort Sort.ltInt d a b).1) :=
 Sort.partialInsertionSort_holds Sort.swo_ltInt d a b hab hb h.below
def fw (a b:Nat)(d d':Array Int):Prop:=Sort.PermIn a b d d'/\Sort.SortedIn Sort.ltInt a b d'
theorem gB {a b:Nat}{d:Array Int}(h:Sort.SortedIn Sort.ltInt a b d){i j:Nat}(h1:a<=i)(h2:i<j)(h3:j<b):d[i]!≤d[j]! :=Jh (h i j h1 h2 h3)
theorem qa {a b:Nat}{d:Array Int}(h:∀i j,a<=i->i<j->j<b->d[i]!≤d[j]!):Sort.SortedIn Sort.ltInt a b d:=fun i j h1 h2 h3=>Eb (by have:=h i j h1 h2 h3;omega)
def Mids (w:World)(g off a b A B:Nat)(d dk:Array Int)(wr:World):Prop:=Rw w g off d dk wr/\Sort.PermIn a b d dk/\Ahead A B dk/\∀d',fw A B dk d'->Sort.SortedIn Sort.ltInt a b d'
section
variable {w wr w2:World} {g off a b A B:Nat} {d dk d2:Array Int}
theorem Mids.perm (h:Mids w g off a b A B d dk wr)(hA:a<=A)(hB:B<=b)(hb:b<=d.size)(hp:Sort.PermIn A B dk d2)(hr:Rw wr g off dk d2 w2):Mids w g off a b A B d d2 w2 :=
 ⟨h.1.trans hr,bj h.2.1 (ew hA hB (by rw[h.1.1];exact hb) hp),h.2.2.1.perm (by rw[h.1.1];omega) hp,fun d' hs=>h.2.2.2 d' ⟨bj hp hs.1,hs.2⟩⟩
theorem Mids.done (h:Mids w g off a b A B d dk wr)(hA:a<=A)(hB:B<=b)(hb:b<=d.size)(hs:fw A B dk d2)(hr:Rw wr g off dk d2 w2):fw a b d d2/\Rw w g off d d2 w2 :=
 ⟨⟨bj h.2.1 (ew hA hB (by rw[h.1.1];exact hb) hs.1),h.2.2.2 d2 hs⟩,h.1.trans hr⟩
theorem Mids.equal {m p:Nat}(h:Mids w g off a b A B d dk wr)(hA:a<=A)(hB:B<=b)(hb:b<=d.size)(hp:Sort.PermIn A B dk d2)(hr:Rw wr g off dk d2 w2)(h0:0<A)(hlow:dk[p]!≤dk[A-1]!)(hm1:A<m)(hm2:m<=B)
 (lo:∀t,A<=t->t<m->d2[t]!≤dk[p]!) (hi:∀t,m<=t->t<B->dk[p]! < d2[t]!):Mids w g off a b m B d d2 w2:=by
 have hBs:B<=dk.size:=by rw[h.1.1];omega
 have h2:=h.perm hA hB hb hp hr;have e:d2[A-1]! =dk[A-1]! :=hp.2.1 (A-1) (by omega);have eq:∀t,A<=t->t<m->d2[t]! =dk[p]! :=fun t h3 h4=>by
  rcases h2.2.2.1 with k | k
  · omega
  · have:=k t h3 (by omega);have:=lo t h3 h4;omega
 refine⟨h2.1,h2.2.1,Or.inr fun i h3 h4=>?_,fun d' hs=>?_⟩
 · have:=lo (m-1) (by omega) (by omega);have:=hi i h3 h4;omega
 · refine h2.2.2.2 d' ⟨ew (by omega) (Nat.le_refl _) (by rw[hp.1];exact hBs) hs.1,qa fun i j h3 h4 h5=>?_⟩;have same:∀t,t<m->d'[t]! =d2[t]! :=fun t ht=>hs.1.2.1 t (Or.inl ht);have up:∀t,m<=t->t<B->dk[p]! < d'[t]! :=fZ (fun x=>dk[p]! < x) (by rw[hp.1];exact hBs) hs.1 hi;by_cases hi2:i<m
   · rw[same i hi2,eq i h3 hi2];by_cases hj2:j<m
     · rw[same j hj2,eq j (by omega) hj2];omega
     · have:=up j (by omega) h5;omega
   · exact gB hs.2 (by omega) h4 h5
theorem Hu {m:Nat}{v:Int}{d':Array Int}(hv:d'[m]! =v)(lo:∀t,A<=t->t<m->d'[t]! < v)(hi:∀t,m<t->t<B->v<=d'[t]!)(sL:Sort.SortedIn Sort.ltInt A m d')(sR:Sort.SortedIn Sort.ltInt (m+1) B d'):Sort.SortedIn Sort.ltInt A B d':=by
 refine qa fun i j h1 h2 h3=>?_;by_cases hi2:i<m
 · by_cases hj2:j<m
   · exact gB sL h1 h2 hj2
   · have g1:=lo i h1 hi2;by_cases hj3:j=m
     · subst hj3;omega
     · have:=hi j (by omega) h3;omega
 · by_cases hi3:i=m
   · subst hi3;rw[hv];exact hi j (by omega) h3
   · exact gB sR (by omega) h2 h3
theorem kK {d':Array Int}(e:∀t,A<=t->t<B->d'[t]! =d2[t]!)(h:Sort.SortedIn Sort.ltInt A B d2):Sort.SortedIn Sort.ltInt A B d':=fun i j h1 h2 h3=>by rw[e i h1 (by omega),e j (by omega) h3];exact h i j h1 h2 h3
theorem Mids.left {m:Nat}{d5:Array Int}{w5:World}(h:Mids w g off a b A B d dk wr)(hA:a<=A)(hB:B<=b)(hb:b<=d.size)(hp:Sort.PermIn A B dk d2)(hr:Rw wr g off dk d2 w2)(hP:fJ A B m d2)(hs:fw A m d2 d5)(hr5:Rw w2 g off d2 d5 w5) :
 Mids w g off a b (m+1) B d d5 w5:=by
 obtain⟨m1,m2,lo,hi⟩:=hP;have hBs:B<=d2.size:=by rw[hp.1,h.1.1];omega
 have h2:=h.perm hA hB hb hp hr;have h5:=h2.perm hA hB hb (ew (Nat.le_refl _) (by omega) hBs hs.1) hr5;have e5:∀t,m<=t->d5[t]! =d2[t]! :=fun t ht=>hs.1.2.1 t (Or.inr ht);have lo5:∀t,A<=t->t<m->d5[t]! < d2[m]! :=fZ (fun x=>x<d2[m]!) (by omega) hs.1 lo;have s5:B<=d5.size:=by rw[hs.1.1];exact hBs
 refine⟨h5.1,h5.2.1,Or.inr fun i h3 h4=>?_,fun d' hd=>h5.2.2.2 d' ⟨ew (by omega) (Nat.le_refl _) s5 hd.1,?_⟩⟩
 · rw[Nat.add_sub_cancel,e5 m (Nat.le_refl _),e5 i (by omega)];exact hi i (by omega) h4
 · have e':∀t,t<m+1->d'[t]! =d5[t]! :=fun t ht=>hd.1.2.1 t (Or.inl ht);refine Hu (m:=m) (v:=d2[m]!) (by rw[e' m (by omega),e5 m (Nat.le_refl _)]) (fun t h3 h4=>by rw[e' t (by omega)];exact lo5 t h3 h4) (fun t h3 h4=>?_) (kK (fun t _ h4=>e' t (by omega)) hs.2) hd.2;exact fZ (fun x=>d2[m]!≤x) s5 hd.1 (fun t h3 h4=>by rw[e5 t (by omega)];exact hi t (by omega) h4) t (by omega) h4
theorem Mids.right {m:Nat}{d5:Array Int}{w5:World}(h:Mids w g off a b A B d dk wr)(hA:a<=A)(hB:B<=b)(hb:b<=d.size)(hp:Sort.PermIn A B dk d2)(hr:Rw wr g off dk d2 w2)(hP:fJ A B m d2)(hs:fw (m+1) B d2 d5)(hr5:Rw w2 g off d2 d5 w5) :
 Mids w g off a b A m d d5 w5:=by
 obtain⟨m1,m2,lo,hi⟩:=hP;have hBs:B<=d2.size:=by rw[hp.1,h.1.1];omega
 have h2:=h.perm hA hB hb hp hr;have h5:=h2.perm hA hB hb (ew (by omega) (Nat.le_refl _) hBs hs.1) hr5;have e5:∀t,t<m+1->d5[t]! =d2[t]! :=fun t ht=>hs.1.2.1 t (Or.inl ht);have hi5:∀t,m+1<=t->t<B->d2[m]!≤d5[t]! :=fZ (fun x=>d2[m]!≤x) hBs hs.1 fun t h3 h4=>hi t (by omega) h4;have s5:m<=d5.size:=by rw[hs.1.1];omega
 refine⟨h5.1,h5.2.1,?_,fun d' hd=>h5.2.2.2 d' ⟨ew (Nat.le_refl _) (by omega) (by rw[hs.1.1];exact hBs) hd.1,?_⟩⟩
 · rcases h5.2.2.1 with k | k
   · exact Or.inl k
   · exact Or.inr fun i h3 h4=>k i h3 (by omega)
 · have e':∀t,m<=t->d'[t]! =d5[t]! :=fun t ht=>hd.1.2.1 t (Or.inr ht);refine Hu (m:=m) (v:=d2[m]!) (by rw[e' m (Nat.le_refl _),e5 m (by omega)]) (fun t h3 h4=>?_) (fun t h3 h4=>by rw[e' t (by omega)];exact hi5 t (by omega) h4) hd.2 (kK (fun t h3 _=>e' t (by omega)) hs.2);exact fZ (fun x=>x<d2[m]!) s5 hd.1 (fun t h3 h4=>by rw[e5 t (by omega)];exact lo t h3 h4) t h3 h4
theorem Mids.start (h:Sort.Holds (Value.int .u64) w g off d)(ha:Ahead a b d):Mids w g off a b a b d d w:=⟨Rw.refl h,gy _ _ _,ha,fun _ hs=>hs.2⟩
theorem Mids.hold (h:Mids w g off a b A B d dk wr)(hg:g<w.heap.size):Sort.Holds (Value.int .u64) wr g off dk/\g<wr.heap.size/\dk.size=d.size:=⟨h.1.2.1,h.1.size hg,h.1.1⟩
theorem Mids.drawn (h:Mids w g off a b A B d dk wr)(q:Nat):Mids w g off a b A B d dk (wr.drewN q):=⟨h.1.drawn q,h.2⟩
theorem Mids.same {C:Nat}(h:Mids w g off a b A B d dk wr)(hb:Below C wr w2)(hC:g<C):Mids w g off a b A B d dk w2:=⟨h.1.below hb hC,h.2⟩
end
theorem JK:∀(N g off cap a b n:Nat) (lim:Int) (d:Array Int) (w:World),b-a<N->d.size=n->Sort.Holds (Value.int .u64) w g off d->g<w.heap.size->a<=b->b<=n->n<4611686018427387904->0<=lim->lim<4611686018427387904->Ahead a b d ->
 Calls Tryz.prog 151 #[.slice (some ⟨g,off,none⟩) n cap,.int .i64 a,.int .i64 b,.int .i64 lim] w fun e w'=>e=.returned (.tuple #[])/\∃d',fw a b d d'/\Rw w g off d d' w':=by
 intro N;induction N with
 | zero=>intro _ _ _ _ _ _ _ _ _ h;exact absurd h (Nat.not_lt_zero _)
 | succ N ih =>
  intro g off cap a b n lim d w hN hn hH hg hab hb hsz l0 l1 hA0;have HI:Hid _:=ih;clear ih;have HN:Hid (d.size=n):=hn;have M0:Hid (Mids w g off a b a b d d w):=Mids.start hH hA0;have hbs:Hid (b<=d.size):=af (by rw[hn];exact hb);clear hn hH hA0
  go_enter Tryz.func151,Tryz.ntmps151
  go_wp2
  go_loopg [1,2,3,8,9] (b-a) (fun k s1 s2 s3 s8 s9 wr=>∃(A B:Nat) (lm:Int) (wb wp:Bool) (dk:Array Int),s1=.int .i64 A/\s2=.int .i64 B/\s3=.int .i64 lm/\s8=.bool wb/\s9=.bool wp /\
   a<=A/\A<=B/\B<=b/\B-A<=k/\k<=b-a/\0<=lm/\lm<4611686018427387904/\Hid (Mids w g off a b A B d dk wr))
  case atStart=>exact⟨a,b,lim,true,true,d,rfl,rfl,rfl,rfl,rfl,Nat.le_refl _,hab,Nat.le_refl _,Nat.le_refl _,Nat.le_refl _,l0,l1,M0.out⟩
  case round =>
   clear M0;obtain⟨A,B,lm,wb,wp,dk,rfl,rfl,rfl,rfl,rfl,haA,hAB,hBb,hk,hkN,m0,m1,hM⟩:=hrel;by_cases h12:B-A<=12
   · have h12z:(B:Int)-(A:Int)<=12:=by omega
     have hh:=hM.out.hold hg;go_wp2_with fail;refine(JH g off cap A B n dk (by rw[hh.2.2,HN.out]) wr hh.1 hh.2.1 hAB (by omega) hsz).mono ?_;rintro e w1 ⟨rfl,d1,h1,h2,h3⟩;have HR:Hid (fw a b d d1/\Rw w g off d d1 w1):=hM.out.done haA hBb hbs.out ⟨h1,h2⟩ (Rw.of_st hh.1 hh.2.1 h3);clear hh h1 h2 h3 hM;go_wp2_with fail
     (try simp only[Exit.inBlock,Exit.then]);refine bodyPost_ret (results_none rfl _ _ _) rfl ?_
     exact⟨rfl,d1,HR.out⟩
   · have h12z:¬((B:Int)-(A:Int)<=12):=by omega
     by_cases hl0:lm=0
     · subst hl0;have hh:=hM.out.hold hg;go_wp2_with fail;refine(II g off cap A B n dk (by rw[hh.2.2,HN.out]) wr hh.1 hh.2.1 hAB (by omega) hsz).mono ?_;rintro e w1 ⟨rfl,d1,h1,h2,h3⟩;have HR:Hid (fw a b d d1/\Rw w g off d d1 w1):=hM.out.done haA hBb hbs.out ⟨h1,h2⟩ (Rw.of_st hh.1 hh.2.1 h3);clear hh h1 h2 h3 hM;go_wp2_with fail
       (try simp only[Exit.inBlock,Exit.then]);refine bodyPost_ret (results_none rfl _ _ _) rfl ?_
       exact⟨rfl,d1,HR.out⟩
     · have hl0z:¬(lm=0):=hl0
       go_upto_if 35 with fail
       go_cut [3]from 19 (fun s3 wc=>∃(l2:Int) (d1:Array Int),s3=.int .i64 l2/\0<=l2/\l2<4611686018427387904/\Hid (Mids w g off a b A B d d1 wc))
       case first =>
        cases wb
        · have hh:=hM.out.hold hg;go_wp2_with fail;refine(JG g off cap A B n dk (by rw[hh.2.2,HN.out]) wr hh.1 hh.2.1 hAB (by omega) hsz).mono ?_;rintro e w1 ⟨rfl,d1,h1,h3⟩;have HR:Hid (Mids w g off a b A B d d1 w1):=hM.out.perm haA hBb hbs.out h1 h3;clear hh h1 h3 hM;go_wp2_with fail;go_meet
          case rel=>exact⟨lm-1,d1,rfl,by omega,by omega,HR.out⟩
        · go_wp2_with fail;go_meet
          case rel=>exact⟨lm,dk,rfl,by omega,by omega,hM.out⟩
       case rest =>
        clear hM hl0z hl0;obtain⟨l2,d1,rfl,m20,m21,hM⟩:=hcut;have hh:=hM.out.hold hg;have PV:Hid (Calls Tryz.prog 191 #[.slice (some ⟨g,off,none⟩) n cap,.int .i64 A,.int .i64 B] wc fun e w'=>yd A B e/\Below wc.heap.size wc w'):=GQ g off cap A B n d1 (by rw[hh.2.2,HN.out]) wc hh.1 hh.2.1 (by omega) (by omega) hsz
        go_upto_if 50 with(go_at_call 191;refine PV.out.mono ?_;rintro e w2 ⟨⟨p,h,rfl,p1,p2,h1,h2⟩,hb2⟩)
        have hM2:Hid (Mids w g off a b A B d d1 w2):=hM.out.same hb2 hh.2.1;clear hb2 hM hh PV
        go_cut [11,12]from 19 (fun s11 s12 wc=>∃(p:Nat) (h:Int) (d2:Array Int),s11=.int .i64 p/\s12=.int .i64 h/\A<=p/\p<B/\Hid (Mids w g off a b A B d d2 wc))
        case first =>
         by_cases hh2:h=2
         · subst hh2;have hh:=hM2.out.hold hg;go_wp2_with fail;refine(JL g off cap A B n d1 (by rw[hh.2.2,HN.out]) w2 hh.1 hh.2.1 hAB (by omega) hsz).mono ?_;rintro e w1 ⟨rfl,d2,h1,h3⟩;have HR:Hid (Mids w g off a b A B d d2 w1):=hM2.out.perm haA hBb hbs.out h1 (Rw.of_st hh.1 hh.2.1 h3);clear hh h1 h3 hM2;go_wp2_with fail;go_meet
           case rel=>exact⟨B-1-(p-A),1,d2,by congr 1;omega,rfl,by omega,by omega,HR.out⟩
         · have hh2z:¬(h=2):=hh2;go_wp2_with fail;go_meet
           case rel=>exact⟨p,h,d1,rfl,rfl,p1,p2,hM2.out⟩
        case rest =>
         clear hM2 p1 p2 h1 h2;obtain⟨p,h,d2,rfl,rfl,p1,p2,hM⟩:=hcut
         go_upto_region 15 with fail
         go_cut [12,68]from 19 (fun s12 s68 wx=>∃(h:Int) (z:Bool),s12=.int .i64 h/\s68=.bool z/\wx=wc)
         case first =>
          by_cases hh1:h=1
          · subst hh1;cases wb <;>cases wp <;>(go_wp2_with fail;go_meet;exact⟨_,_,rfl,rfl,rfl⟩)
          · have hh1z:(h == 1)=false:=by simpa using hh1
            cases wb <;>cases wp <;>(go_wp2_with fail;go_meet;exact⟨_,_,rfl,rfl,rfl⟩)
         case rest =>
          obtain⟨h,z,rfl,rfl,rfl⟩:=hcut
          go_upto_if 68 with fail
          go_cut []from 19 (fun wx=>∃d3:Array Int,Hid (Mids w g off a b A B d d3 wx))
          case first =>
           cases z
           · go_wp2_with fail;go_meet
             case rel=>exact⟨d2,hM.out⟩
           · have hh:=hM.out.hold hg;have PI:=xk (d:=d2) (a:=A) (b:=B) (by omega) (by rw[hh.2.2,HN.out];omega) hM.out.2.2.1;have PC:=IR g off cap A B n d2 (by rw[hh.2.2,HN.out]) wc hh.1 hh.2.1 (by omega) (by omega) hsz;generalize Sort.partialInsertionSort Sort.ltInt d2 A B=R at PI PC;obtain⟨d3,ok⟩:=R;replace PI:Hid _:=PI;have PC2:=af PC;clear PC;go_wp2_with fail;refine PC2.out.mono ?_;rintro e w1 ⟨rfl,h3⟩;have hr3:Hid (Rw wc g off d2 d3 w1):=Rw.of_st hh.1 hh.2.1 h3;clear h3 hh PC2;cases ok
             · have HR:Hid (Mids w g off a b A B d d3 w1):=hM.out.perm haA hBb hbs.out PI.out.1 hr3.out;clear PI hr3 hM;go_wp2_with fail;go_meet
               case rel=>exact⟨d3,HR.out⟩
             · have HR:Hid (fw a b d d3/\Rw w g off d d3 w1):=hM.out.done haA hBb hbs.out ⟨PI.out.1,PI.out.2 rfl⟩ hr3.out;clear PI hr3 hM;go_wp2_with fail
               (try simp only[Exit.inBlock,Exit.then]);refine bodyPost_ret (results_none rfl _ _ _) rfl ?_
               exact⟨rfl,d3,HR.out⟩
          case rest =>
           clear hM;obtain⟨d3,hM⟩:=hcut;obtain⟨G,hG,hcw,hfw⟩:=hM.out.1.fam;rw[HN.out]at hcw hfw;have HG:Hid (∀t,G t=d3[t]!):=hG;clear hG
           go_upto_region 17 with fail
           go_cut [87]from 19 (fun s87 wx=>∃z:Bool,s87=.bool z/\Hid ((z=true->0<A/\d3[p]!≤d3[A-1]!)/\Mids w g off a b A B d d3 wx))
           case first =>
            rcases Nat.eq_zero_or_pos A with ha0 | ha0
            · have ha0z:decide ((A:Int)>0)=false:=decide_eq_false (by omega)
              go_big_quiet (first | (go_at_call 158;refine Calls.quiet_of_same (aL _ _ _)))
              go_wp2_with fail;go_meet
              case rel=>exact⟨false,rfl,af ⟨fun h=>Bool.noConfusion h,hM.out.drawn nq⟩⟩
            · have ha0z:(A:Int)>0:=by omega
              go_big_quiet (first | (go_at_call 158;refine Calls.quiet_of_same (aL _ _ _)))
              go_wp2_with fail;go_meet
              case rel=>exact⟨_,rfl,af ⟨fun h=>⟨ha0,by have:=geI (cC h);rw[HG.out,HG.out]at this;exact this⟩,hM.out.drawn nq⟩⟩
           case rest =>
            clear hM HG hcw hfw;obtain⟨z,rfl,hZ⟩:=hcut;have hh:=hZ.out.2.hold hg;cases z
            · have PP:=af (IM g off cap A B p n d3 (by rw[hh.2.2,HN.out]) wc hh.1 hh.2.1 p1 p2 (by omega) hsz);clear hh
              go_upto_if 113 with(go_at_call 195;refine PP.out.mono ?_;rintro e w7 ⟨m,f,d4,rfl,q1,⟨mA,mB,q2a,q2b⟩,q3⟩)
              have hh:=hZ.out.2.hold hg;have r4:Hid (Rw wc g off d3 d4 w7):=Rw.of_st hh.1 hh.2.1 q3;have M4:Hid (Mids w g off a b A B d d4 w7):=hZ.out.2.perm haA hBb hbs.out q1 r4.out;have hh4:Sort.Holds (Value.int .u64) w7 g off d4/\g<w7.heap.size/\Hid (d4.size=n):=⟨(M4.out.hold hg).1,(M4.out.hold hg).2.1,af (by rw[(M4.out.hold hg).2.2,HN.out])⟩
              have q2:fJ A B m d4:=⟨mA,mB,q2a,q2b⟩
              clear q2a q2b;clear q3 PP hh;by_cases h4:m-A<B-m
              · have h4z:(m:Int)-(A:Int)<(B:Int)-(m:Int):=by omega
                have IC:=af (HI.out g off cap A m n l2 d4 w7 (by omega) hh4.2.2.out hh4.1 hh4.2.1 (by omega) (by omega) hsz m20 m21 (M4.out.2.2.1.less (by omega)));clear M4 hh4;go_wp2_with fail;refine IC.out.mono ?_;rintro e w8 ⟨rfl,d5,s5,r5⟩;have M5:Hid (Mids w g off a b (m+1) B d d5 w8):=hZ.out.2.left haA hBb hbs.out q1 r4.out q2 s5 r5;clear s5 r5 IC hZ q1 q2 r4;go_wp2_with fail
                go_roundg (B-(m+1))
                case measure=>omega
                case rel=>exact⟨m+1,B,l2,_,f,d5,by simp,rfl,rfl,rfl,rfl,by omega,by omega,by omega,by omega,by omega,m20,m21,M5.out⟩
              · have h4z:¬((m:Int)-(A:Int)<(B:Int)-(m:Int)):=by omega
                have IC:=af (HI.out g off cap (m+1) B n l2 d4 w7 (by omega) hh4.2.2.out hh4.1 hh4.2.1 (by omega) (by omega) hsz m20 m21 (Or.inr fun i h3 h4=>by rw[Nat.add_sub_cancel];exact q2.2.2.2 i (by omega) h4));clear M4 hh4;go_wp2_with fail;rw[show((m:Int)+1)=((m+1:Nat):Int)by omega];refine IC.out.mono ?_;rintro e w8 ⟨rfl,d5,s5,r5⟩;have M5:Hid (Mids w g off a b (A) m d d5 w8):=hZ.out.2.right haA hBb hbs.out q1 r4.out q2 s5 r5;clear s5 r5 IC hZ q1 q2 r4;go_wp2_with fail
                go_roundg (m-(A))
                case measure=>omega
                case rel=>exact⟨A,m,l2,_,f,d5,rfl,rfl,rfl,rfl,rfl,by omega,by omega,by omega,by omega,by omega,m20,m21,M5.out⟩
            · have PP:=af (DZ g off cap A B p n d3 (by rw[hh.2.2,HN.out]) wc hh.1 hh.2.1 p1 p2 (by omega) hsz);clear hh;go_wp2_with fail;refine PP.out.mono ?_;rintro e w7 ⟨m,d4,rfl,q1,q3,mA,mB,q4,q5⟩;have hh:=hZ.out.2.hold hg;have M5:Hid (Mids w g off a b m B d d4 w7):=hZ.out.2.equal haA hBb hbs.out q1 (Rw.of_st hh.1 hh.2.1 q3) (hZ.out.1 (by trivial)).1 (hZ.out.1 (by trivial)).2 mA mB q4 q5;clear PP hh hZ q1 q3 q4 q5;go_wp2_with fail
              go_roundg (B-m)
              case measure=>omega
              case rel=>exact⟨m,B,l2,wb,wp,d4,rfl,rfl,rfl,rfl,rfl,by omega,by omega,by omega,by omega,by omega,m20,m21,M5.out⟩
theorem AB (g off cap n:Nat)(d:Array Int)(hn:d.size=n)(w:World)(hH:Sort.Holds (Value.int .u64) w g off d)(hg:g<w.heap.size)(hsz:n<4611686018427387904) :
 Calls Tryz.prog 103 #[.slice (some ⟨g,off,none⟩) n cap] w fun e w'=>e=.returned (.tuple #[])/\∃d',fw 0 n d d'/\Rw w g off d d' w':=by
 have hb:=jo 62 n (by omega) (by omega);obtain⟨k,hk⟩:∃k,Lib.bitLen n=k:=⟨_,rfl⟩
 rw[hk]at hb;have L:Hid (∀w,Calls Tryz.prog 152 #[.int .u64 n] w fun e w'=>e=.returned (.int .i64 (k:Int))/\w'=w):=fun w=>by
  have:=mg (n:Int) w (by omega) (by omega);rw[show((n:Int)).toNat=n by omega,hk]at this;exact this
 have PC:=af (JK (n+1) g off cap 0 n n (k:Int) d w (by omega) hn hH hg (Nat.zero_le _) (Nat.le_refl _) hsz (by omega) (by have:=hb.1;omega) (Or.inl rfl));clear hb hk hH hn
 go_enter Tryz.func103,Tryz.ntmps103
 go_wp2_with (first | (go_at_call 152;refine(L.out _).mono ?_;rintro e w' ⟨rfl,rfl⟩))
 refine PC.out.mono ?_;rintro e w1 ⟨rfl,d5,s5,r5⟩;have HR:=af (And.intro s5 r5);clear s5 r5 PC L;go_wp2_with fail
 go_end0
 exact⟨rfl,d5,HR.out⟩
def RowAt (C:Nat)(w:World)(s:Value)(L:List Int):Prop:=(L=[]/\s=.slice none 0 0)∨∃g cap,s=.slice (some ⟨g,0,none⟩) L.length cap/\C<=g/\∀(j:Nat) (hj:j<L.length),w.cell? ⟨g,j,none⟩=some (.int .u64 L[j])
theorem RowAt.keep {C:Nat}{w w':World}{s:Value}{L:List Int}(h:RowAt C w s L)(hb:Below w.heap.size w w'):RowAt C w' s L:=by
 rcases h with h | ⟨g,cap,h1,h2,h3⟩
 · exact Or.inl h
 · exact Or.inr ⟨g,cap,h1,h2,fun j hj=>aa hb (h3 j hj)⟩
theorem RowAt.mono {C D:Nat}{w:World}{s:Value}{L:List Int}(h:RowAt C w s L)(hD:D<=C):RowAt D w s L:=by
 rcases h with h | ⟨g,cap,h1,h2,h3⟩
 · exact Or.inl h
 · exact Or.inr ⟨g,cap,h1,by omega,h3⟩
theorem jP {n:Nat}{L:List Int}{d':Array Int}(hL:L.length=n)(h:fw 0 n L.toArray d'):d'.toList.Perm L/\d'.toList.Pairwise (·≤·)/\d'.size=n:=by
 have hs:d'.size=n:=by rw[h.1.1];simpa using hL
 have hp:=h.1.2.2;have e1:(d'.extract 0 n).toList=d'.toList:=by simp[←hs]
 have e2:(L.toArray.extract 0 n).toList=L:=by simp[←hL]
 rw[e1,e2]at hp;refine⟨hp,List.pairwise_iff_getElem.2 fun i j hi hj hij=>?_,hs⟩;have:=gB h.2 (i:=i) (j:=j) (Nat.zero_le _) hij (by simpa[hs]using hj)
 simpa[show i<d'.size by simpa using hi,show j<d'.size by simpa using hj]using this
theorem fH {X:List Int}{k:Nat}(h:k<X.length):X.take (k+1)=X.take k++[X[k]]:=List.take_succ_eq_append_getElem h
theorem pz {L:List Int}{x:Int}{lo:Nat}(hR:aq L)(hlo:lo<=L.length)(h1:∀(t:Nat) (ht:t<L.length),t<lo->L[t] < x)(h2:∀(t:Nat) (ht:t<L.length),lo<=t->x<L[t]) :
 aq (L.take lo++(x :: L.drop lo))/\∀y,y∈L.take lo++(x :: L.drop lo)↔y∈L∨y=x:=by
 have hT:∀y∈L.take lo,y<x:=fun y hy=>by
  obtain⟨t,ht,rfl⟩:=List.mem_iff_getElem.1 hy;rw[List.length_take]at ht;rw[List.getElem_take];exact h1 t (by omega) (by omega)
 have hD:∀y∈L.drop lo,x<y:=fun y hy=>by
  obtain⟨t,ht,rfl⟩:=List.mem_iff_getElem.1 hy;rw[List.length_drop]at ht;rw[List.getElem_drop];exact h2 (lo+t) (by omega) (by omega)
 refine⟨List.pairwise_append.2 ⟨hR.sublist (List.take_sublist _ _),List.pairwise_cons.2 ⟨hD,hR.sublist (List.drop_sublist _ _)⟩,fun a ha b hb=>?_⟩,fun y=>?_⟩
 · rcases List.mem_cons.1 hb with rfl | hb
   · exact hT a ha
   · have:=hT a ha;have:=hD b hb;omega
 · rw[List.mem_append,List.mem_cons];have e:y∈L↔y∈L.take lo∨y∈L.drop lo:=by rw[←List.mem_append,List.take_append_drop]
   rw[e];constructor
   · rintro(h | h | h)
     · exact .inl (.inl h)
     · exact .inr h
     · exact .inl (.inr h)
   · rintro((h | h) | h)
     · exact .inl h
     · exact .inr (.inr h)
     · exact .inr (.inl h)
theorem Gi {L:List Int}(h:aq L){i j:Nat}(hi:i<L.length)(hj:j<L.length)(hij:i<j):L[i] < L[j]:=List.pairwise_iff_getElem.1 h i j hi hj hij
theorem ga {L:List Int}(h:aq L){i j:Nat}(hi:i<L.length)(hj:j<L.length)(hij:i<=j):L[i]<=L[j]:=by
 rcases Nat.lt_or_ge i j with k | k
 · have:=Gi h hi hj k;omega
 · obtain rfl:i=j:=by omega
   exact Int.le_refl _
def Seek (L:List Int)(x:Int)(lo hi:Nat):Prop:=(∀(t:Nat) (ht:t<L.length),t<lo->L[t] < x)/\∀(t:Nat) (ht:t<L.length),hi<=t->x<=L[t]
theorem Seek.up {L:List Int}{x:Int}{lo hi mid:Nat}(h:Seek L x lo hi)(hR:aq L)(hm:mid<L.length)(hx:L[mid] < x):Seek L x (mid+1) hi :=
 ⟨fun t ht hl=>by have:=ga hR ht hm (by omega);omega,h.2⟩
theorem Seek.down {L:List Int}{x:Int}{lo hi mid:Nat}(h:Seek L x lo hi)(hR:aq L)(hm:mid<L.length)(hx:x<=L[mid]):Seek L x lo mid :=
 ⟨h.1,fun t ht hl=>by have:=ga hR hm ht hl;omega⟩
end Go.Proofs.YtbnlhdnnenahfaaGreatDoor
