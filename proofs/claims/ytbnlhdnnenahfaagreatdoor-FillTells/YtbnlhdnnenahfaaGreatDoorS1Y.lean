/-
  What the texts SRow, SIns, SPart say, so far as this seat's proofs need it.
-/
import Derived.Test.YtbnlhdnnenahfaaGreatDoorPY
import Derived.Sort.Walk13a
import Derived.Sort.LotA
import Derived.Sort.LotB
import Derived.CellFam
set_option maxHeartbeats 16000000
set_option maxRecDepth 100000
namespace Go.Proofs.YtbnlhdnnenahfaaGreatDoor
def St (w:World)(g off:Nat)(d0 d:Array Int)(w':World):Prop:=d.size=d0.size/\Sort.At (Value.int .u64) w g off d w'
section
variable {w w' w2:World} {g off:Nat} {d0 d d2:Array Int}
theorem St.refl (h:Sort.Holds (Value.int .u64) w g off d):St w g off d d w:=⟨rfl,Sort.At.refl h⟩
theorem St.hold (h0:Sort.Holds (Value.int .u64) w g off d0)(hg:g<w.heap.size)(h:St w g off d0 d w'):Sort.Holds (Value.int .u64) w' g off d/\g<w'.heap.size:=h.2.holds h0 h.1 hg
theorem St.fam (h0:Sort.Holds (Value.int .u64) w g off d0)(hg:g<w.heap.size)(h:St w g off d0 d w') :
 ∃G:Nat->Int,(∀t,G t=d[t]!)/\(∀t,t<d0.size->w'.cell? ⟨g,off+t,none⟩=some (.int .u64 (G t)))/\∀t,t<d0.size->w'.frozen? ⟨g,off+t,none⟩=false :=
 ⟨fun t=>d[t]!,fun _=>rfl,fun t ht=>((h.hold h0 hg).1 t (by rw[h.1];exact ht)).1,fun t ht=>((h.hold h0 hg).1 t (by rw[h.1];exact ht)).2⟩
theorem St.drawn (h:St w g off d0 d w')(q:Nat):St w g off d0 d (w'.drewN q):=⟨h.1,h.2.ahead q⟩
theorem St.trans (hg:g<w.heap.size)(h:St w g off d0 d w')(h2:St w' g off d d2 w2):St w g off d0 d2 w2:=by
 refine⟨h2.1.trans h.1,?_⟩;obtain⟨n,os,e⟩:=h2.2;exact h.2.stepG hg h2.1 ⟨n,os,e⟩
theorem St.swap (h0:Sort.Holds (Value.int .u64) w g off d0)(hg:g<w.heap.size)(h:St w g off d0 d w'){G:Nat->Int}(hG:∀t,G t=d[t]!){j k:Nat}(hj:j<d0.size)(hk:k<d0.size)(q:Nat) :
 St w g off d0 (Sort.swp d j k) (((w'.drewN q).setCell ⟨g,off+j,none⟩ (.int .u64 (G k))).setCell ⟨g,off+k,none⟩ (.int .u64 (G j))):=by
 have hH:=(h.hold h0 hg).1;have e:=Sort.putRow_swp (Value.int .u64) (Sort.ahead w' q) g off d j k (by rw[h.1];exact hj) (by rw[h.1];exact hk);rw[Sort.putRow_self _ _ _ _ _ (Sort.holds_ahead _ _ q _ _ _ hH)]at e;refine⟨by rw[Sort.size_swp];exact h.1,h.2.step hg (Sort.size_swp _ _ _) ⟨q,?_⟩⟩;rw[hG,hG];exact e
end
abbrev lt:Int->Int->Bool:=Sort.ltInt
theorem cf (d:Array Int)(a b i j:Nat)(h1:a<=i)(h2:i<b)(h3:a<=j)(h4:j<b)(h5:b<=d.size):Sort.PermIn a b d (Sort.swp d i j):=Sort.swp_permIn d a b i j h1 h2 h3 h4 h5
theorem bj {d d' d'':Array Int}{a b:Nat}(h:Sort.PermIn a b d d')(h2:Sort.PermIn a b d' d''):Sort.PermIn a b d d'':=Sort.permIn_trans d d' d'' a b h h2
theorem gy (d:Array Int)(a b:Nat):Sort.PermIn a b d d:=Sort.permIn_refl d a b
theorem fZ {d d':Array Int}{a b:Nat}(p:Int->Prop)(hb:b<=d.size)(h:Sort.PermIn a b d d')(hp:∀i,a<=i->i<b->p d[i]!):∀i,a<=i->i<b->p d'[i]! :=Sort.permIn_all d d' a b p hb h hp
theorem Eb {x y:Int}(h:¬x<y):Sort.ltInt x y=false:=by simp[Sort.ltInt];omega
theorem Jh {x y:Int}(h:Sort.ltInt x y=false):y<=x:=by simp[Sort.ltInt]at h;omega
structure Part (a b i j:Nat) (p:Int) (d:Array Int):Prop where
 at':d[a]! =p
 lo:∀t,a<t->t<i->d[t]! < p
 hi:∀t,j<t->t<b->p<=d[t]!
theorem Part.swap {a b i j:Nat}{p:Int}{d:Array Int}(h:Part a b i j p d)(hb:b<=d.size)(hai:a<i)(hij:i<j)(hjb:j<b)(h1:p<=d[i]!)(h2:d[j]! < p):Part a b (i+1) (j-1) p (Sort.swp d i j):=by
 have gL:=Sort.swp_left d i j (by omega) (by omega);have gR:=Sort.swp_right d i j (by omega);have go:=fun k hk hk'=>Sort.swp_other d i j k hk hk';refine⟨by rw[go a (by omega) (by omega)];exact h.at',fun t h3 h4=>?_,fun t h3 h4=>?_⟩
 · by_cases e:t=i
   · subst e;rw[gL];exact h2
   · rw[go t e (by omega)];exact h.lo t h3 (by omega)
 · by_cases e:t=j
   · subst e;rw[gR];exact h1
   · rw[go t (by omega) e];exact h.hi t (by omega) h4
def fJ (a b m:Nat)(d:Array Int):Prop:=a<=m/\m<b/\(∀t,a<=t->t<m->d[t]! < d[m]!)/\∀t,m<t->t<b->d[m]!≤d[t]!
theorem Part.done {a b i j:Nat}{p:Int}{d:Array Int}(h:Part a b i j p d)(hb:b<=d.size)(hai:a<i)(hij:i=j+1)(hjb:j<b):fJ a b j (Sort.swp d j a):=by
 by_cases e:j=a
 · subst e;have hj:j<d.size:=by omega
   have hs:Sort.swp d j j=d:=by
    unfold Sort.swp;simp[hj,Array.setIfInBounds]
   rw[hs];refine⟨Nat.le_refl _,hjb,fun t h1 h2=>by omega,fun t h1 h2=>?_⟩;rw[h.at'];exact h.hi t h1 h2
 · have gL:=Sort.swp_left d j a (by omega) e;have gR:=Sort.swp_right d j a (by omega);have go:=fun k hk hk'=>Sort.swp_other d j a k hk hk';refine⟨by omega,hjb,fun t h1 h2=>?_,fun t h1 h2=>?_⟩
   · rw[gL,h.at'];by_cases e2:t=a
     · subst e2;rw[gR];exact h.lo j (by omega) (by omega)
     · rw[go t (by omega) e2];exact h.lo t (by omega) (by omega)
   · rw[gL,h.at',go t (by omega) (by omega)];exact h.hi t h1 h2
structure PartE (a b i j:Nat) (p:Int) (d:Array Int):Prop where
 at':d[a]! =p
 lo:∀t,a<t->t<i->d[t]!≤p
 hi:∀t,j<t->t<b->p<d[t]!
theorem PartE.swap {a b i j:Nat}{p:Int}{d:Array Int}(h:PartE a b i j p d)(hb:b<=d.size)(hai:a<i)(hij:i<j)(hjb:j<b)(h1:p<d[i]!)(h2:d[j]!≤p):PartE a b (i+1) (j-1) p (Sort.swp d i j):=by
 have gL:=Sort.swp_left d i j (by omega) (by omega);have gR:=Sort.swp_right d i j (by omega);have go:=fun k hk hk'=>Sort.swp_other d i j k hk hk';refine⟨by rw[go a (by omega) (by omega)];exact h.at',fun t h3 h4=>?_,fun t h3 h4=>?_⟩
 · by_cases e:t=i
   · subst e;rw[gL];exact h2
   · rw[go t e (by omega)];exact h.lo t h3 (by omega)
 · by_cases e:t=j
   · subst e;rw[gR];exact h1
   · rw[go t (by omega) e];exact h.hi t (by omega) h4
end Go.Proofs.YtbnlhdnnenahfaaGreatDoor
namespace Go.Proofs.YtbnlhdnnenahfaaGreatDoor
open Go.RowKit
theorem JI (x:Int)(w:World):Calls Tryz.prog 200 #[.int .u64 x] w fun e w'=>e=.returned (.bool false)/\w'=w:=by
 go_enter Tryz.func200,Tryz.ntmps200
 go_wp2;go_ret;exact⟨by simp,rfl⟩
theorem aL (x y:Int)(w:World):Calls Tryz.prog 158 #[.int .u64 x,.int .u64 y] w fun e w'=>e=.returned (.bool (Sort.ltInt x y))/\w'=w:=by
 go_enter Tryz.func158,Tryz.ntmps158
 go_wp2_with (go_at_call 200;refine(JI _ _).mono ?_;rintro e w' ⟨rfl,rfl⟩)
 go_ret;exact⟨rfl,rfl⟩
theorem JH (g off cap a b n:Nat)(d:Array Int)(hn:d.size=n)(w:World)(hH:Sort.Holds (Value.int .u64) w g off d)(hg:g<w.heap.size)(hab:a<=b)(hb:b<=n)(hsz:n<4611686018427387904) :
 Calls Tryz.prog 188 #[.slice (some ⟨g,off,none⟩) n cap,.int .i64 a,.int .i64 b] w fun e w' =>
  e=.returned (.tuple #[])/\∃d',Sort.PermIn a b d d'/\Sort.SortedIn Sort.ltInt a b d'/\St w g off d d' w':=by
 have H0:Hid (Sort.Holds (Value.int .u64) w g off d):=hH;have HN:Hid (d.size=n):=hn;clear hH hn
 go_enter Tryz.func188,Tryz.ntmps188
 go_wp2;go_loopw [6] (fun vi wr=>∃(i:Nat) (dk:Array Int),vi=.int .i64 i/\a<i/\i<=b+1/\Hid (St w g off d dk wr/\Sort.PermIn a b d dk/\Sort.SortedIn Sort.ltInt a i dk)) (fun vi _=>b+1-(intOf vi).toNat)
 case atStart=>exact⟨a+1,d,by go_num,by omega,by omega,St.refl H0.out,gy _ _ _,fun i j h1 h2 h3=>by omega⟩
 case round =>
  obtain⟨i,dk,rfl,hai,hib,hS⟩:=hrel;by_cases hlt:i<b
  · go_wp2;go_loopw [7] (fun vj wr2=>∃(j:Nat) (dj:Array Int),vj=.int .i64 j/\a<=j/\j<=i/\Hid (St w g off d dj wr2/\Sort.PermIn a b d dj/\Sort.Ins Sort.ltInt a j i dj)) (fun vj _=>(intOf vj).toNat)
    case atStart=>exact⟨i,dk,rfl,by omega,Nat.le_refl _,hS.out.1,hS.out.2.1,⟨fun p q hap hpq hqi _ hq=>hS.out.2.2 p q hap hpq (by omega),fun q h1 h2=>by omega⟩⟩
    case round =>
     clear hS;obtain⟨j,dj,rfl,haj,hji,hS⟩:=hrel;obtain⟨G,hG,hcw,hfw⟩:=hS.out.1.fam H0.out hg;rw[HN.out]at hcw hfw;have HG:Hid (∀t,G t=dj[t]!):=hG;clear hG;have out:(j<=a∨Sort.ltInt dj[j]! dj[j-1]! =false)->∀q,∃(i':Nat) (dk':Array Int),Value.int .i64 ((i:Int)+1)=.int .i64 (i':Nat)/\a<i'/\i'<=b+1/\Hid (St w g off d dk' (wr.drewN q)/\Sort.PermIn a b d dk'/\Sort.SortedIn Sort.ltInt a i' dk'):=fun hs q =>
      ⟨i+1,dj,by go_num,by omega,by omega,hS.out.1.drawn q,hS.out.2.1,hS.out.2.2.stop Sort.swo_ltInt hs⟩
     have OUT:Hid _:=out;clear out;go_wp2;by_cases hja:a<j
     · go_quiet (first | (go_at_call 158;refine Calls.quiet_of_same (aL _ _ _)))
       go_wp2
       · have hl:Sort.ltInt (G j) (G (j-1))=true:=by assumption
         go_region
         all_goals go_wp2
         go_roundw
         case rel =>
          refine⟨j-1,Sort.swp dj j (j-1),by congr 1;omega,by omega,by omega,hS.out.1.swap H0.out hg HG.out (by rw[HN.out];omega) (by rw[HN.out];omega) (nq+1),bj hS.out.2.1 (cf _ _ _ _ _ (by omega) (by omega) (by omega) (by omega) (by rw[hS.out.1.1,HN.out];omega)),?_⟩;obtain⟨j',rfl⟩:∃j',j=j'+1:=⟨j-1,by omega⟩
          exact hS.out.2.2.step (by rw[←HG.out,←HG.out];exact hl) (by omega) (by rw[hS.out.1.1,HN.out];omega)
         case measure=>simp[intOf];omega
       · have hl:Sort.ltInt (G j) (G (j-1))=false:=by assumption
         go_roundw
         case rel=>exact OUT.out (Or.inr (by rw[←HG.out,←HG.out];exact hl)) nq
         case measure=>simp[intOf];omega
     · go_quiet (first | (go_at_call 158;refine Calls.quiet_of_same (aL _ _ _)))
       go_wp2;go_roundw
       case rel=>exact OUT.out (Or.inl (by omega)) nq
       case measure=>simp[intOf];omega
  · go_wp2
    go_end0
    exact⟨rfl,dk,hS.out.2.1,fun p q h1 h2 h3=>hS.out.2.2 p q h1 h2 (by omega),hS.out.1⟩
theorem af {p:Prop}(h:p):Hid p:=h
theorem cC {b:Bool}(h:(!b)=true):b=false:=by simpa using h
theorem dC {b:Bool}(h:(!b)=false):b=true:=by simpa using h
theorem ltI {x y:Int}(h:Sort.ltInt x y=true):x<y:=by simpa[Sort.ltInt]using h
theorem geI {x y:Int}(h:Sort.ltInt x y=false):y<=x:=by simp[Sort.ltInt]at h;omega
theorem DZ (g off cap a b pivot n:Nat)(d:Array Int)(hn:d.size=n)(w:World)(hH:Sort.Holds (Value.int .u64) w g off d)(hg:g<w.heap.size)(hap:a<=pivot)(hpb:pivot<b)(hb:b<=n)(hsz:n<4611686018427387904) :
 Calls Tryz.prog 194 #[.slice (some ⟨g,off,none⟩) n cap,.int .i64 a,.int .i64 b,.int .i64 pivot] w fun e w' =>
  ∃(m:Nat) (d':Array Int),e=.returned (.int .i64 m)/\Sort.PermIn a b d d'/\St w g off d d' w'/\a<m/\m<=b/\(∀t,a<=t->t<m->d'[t]!≤d[pivot]!)/\∀t,m<=t->t<b->d[pivot]! < d'[t]! :=by
 have H0:Hid (Sort.Holds (Value.int .u64) w g off d):=hH;have HN:Hid (d.size=n):=hn;have S0:Hid (St w g off d d w):=St.refl hH;obtain⟨G0,hG0,hc0,hf0⟩:=S0.out.fam H0.out hg;rw[hn]at hc0 hf0;have S1:Hid (St w g off d (Sort.swp d a pivot) ((w.setCell ⟨g,off+a,none⟩ (.int .u64 (G0 pivot))).setCell ⟨g,off+pivot,none⟩ (.int .u64 (G0 a))).drew):=S0.out.swap H0.out hg hG0 (by omega) (by omega) 1;have P1:Hid (Sort.PermIn a b d (Sort.swp d a pivot)):=cf _ _ _ _ _ (by omega) (by omega) (by omega) (by omega) (by omega);obtain⟨p,hp⟩:∃p,d[pivot]! =p:=⟨_,rfl⟩
 have A1:Hid ((Sort.swp d a pivot)[a]! =p):=by
  refine af ?_;by_cases e:a=pivot
  · subst e;rw[Sort.swp_right _ _ _ (by omega)];exact hp
  · rw[Sort.swp_left _ _ _ (by omega) e];exact hp
 have HP:Hid (d[pivot]! =p):=hp;obtain⟨y0,hy0⟩:=cell?_setCell_some (w:=w) (p:=⟨g,off+a,none⟩) (x:=.int .u64 (G0 pivot)) (q:=⟨g,off+pivot,none⟩) (hc0 pivot (by omega));clear hH hn hG0 hp S0
 go_enter Tryz.func194,Tryz.ntmps194
 go_wp2_with fail
 go_region
 go_wp2_with fail;clear hy0 y0 hc0 hf0;generalize ((w.setCell ⟨g,off+a,none⟩ (.int .u64 (G0 pivot))).setCell ⟨g,off+pivot,none⟩ (.int .u64 (G0 a))).drew=W1 at S1 ⊢;obtain⟨D1,hD1⟩:∃z,Sort.swp d a pivot=z:=⟨_,rfl⟩
 rw[hD1]at S1 P1 A1;clear hD1;go_loopw [9,10] (fun vi vj w1=>∃(i j:Nat) (dk:Array Int),vi=.int .i64 i/\vj=.int .i64 j/\a<i/\i<=j+1/\j<b/\Hid (St w g off d dk w1/\Sort.PermIn a b d dk/\PartE a b i j p dk)) (fun vi vj _=>(intOf vj).toNat+1-(intOf vi).toNat)
 case atStart=>exact⟨a+1,b-1,D1,by go_num,by go_num,by omega,by omega,by omega,S1.out,P1.out,⟨A1.out,fun t h1 h2=>by omega,fun t h1 h2=>by omega⟩⟩
 case round =>
  clear S1 P1 A1;obtain⟨i,j,dk,rfl,rfl,hai,hij,hjb,hK⟩:=hrel;have HK:Hid (Sort.PermIn a b d dk/\PartE a b i j p dk):=hK.out.2;have S:Hid (St w g off d dk wr):=hK.out.1;have AT:Hid (dk[a]! =p):=HK.out.2.at';clear hK;go_wp2_with fail;go_loopw [9] (fun vi w1=>∃(u:Nat),vi=.int .i64 u/\i<=u/\u<=j+1/\Hid (St w g off d dk w1/\∀t,i<=t->t<u->dk[t]!≤p)) (fun vi _=>j+1-(intOf vi).toNat)
  case atStart=>exact⟨i,by go_num,Nat.le_refl _,hij,S.out,fun t h1 h2=>by omega⟩
  case round =>
   clear S;obtain⟨u,rfl,hiu,huj,hU⟩:=hrel;obtain⟨G1,hG1,hcw,hfw⟩:=hU.out.1.fam H0.out hg;rw[HN.out]at hcw hfw;have HG1:Hid (∀t,G1 t=dk[t]!):=hG1;have hpa:Hid (G1 a=p):=by refine af ?_;rw[HG1.out];exact AT.out
   clear hG1;by_cases hle:u<=j
   · go_wp2_with fail
     go_big_quiet (first | (go_at_call 158;refine Calls.quiet_of_same (aL _ _ _)))
     go_wp2_with fail
     · have ht:(!Sort.ltInt (G1 a) (G1 u))=true:=by assumption
       go_roundw
       case rel=>exact⟨u+1,by go_num,by omega,by omega,hU.out.1.drawn nq,fun t h1 h2=>by
        by_cases e:t=u
        · subst e;rw[←HG1.out];have:=ht;exact(by have h:=geI (cC this);have:=hpa.out;omega)
        · exact hU.out.2 t h1 (by omega)⟩
       case measure=>simp[intOf];omega
     · have ht:(!Sort.ltInt (G1 a) (G1 u))=false:=by assumption
       have hu2:Hid (p<dk[u]!):=by refine af ?_;rw[←HG1.out u];exact(by have h:=ltI (dC ht);have:=hpa.out;omega)
       have S5:Hid (St w g off d dk (wr.drewN nq)/\∀t,i<=t->t<u->dk[t]!≤p):=⟨hU.out.1.drawn nq,hU.out.2⟩
       have hW5:True:=trivial;generalize wr.drewN nq=W5 at S5 ⊢;clear hcw hfw HG1 hU ht hpa;go_loopw [10] (fun vj w2=>∃(v:Nat),vj=.int .i64 v/\v<=j/\u<=v+1/\Hid (St w g off d dk w2/\∀t,v<t->t<=j->p<dk[t]!)) (fun vj _=>(intOf vj).toNat)
       case atStart=>exact⟨j,by go_num,by omega,by omega,S5.out.1,fun t h1 h2=>by omega⟩
       case round =>
        clear hW5;obtain⟨v,rfl,hvj,huv,hV⟩:=hrel;obtain⟨G2,hG2,hcw,hfw⟩:=hV.out.1.fam H0.out hg;rw[HN.out]at hcw hfw;have HG2:Hid (∀t,G2 t=dk[t]!):=hG2;have hpa:Hid (G2 a=p):=by refine af ?_;rw[HG2.out];exact AT.out
        clear hG2;by_cases hle2:u<=v
        · go_wp2_with fail
          go_big_quiet (first | (go_at_call 158;refine Calls.quiet_of_same (aL _ _ _)))
          go_wp2_with fail
          · have ht:Sort.ltInt (G2 a) (G2 v)=true:=by assumption
            go_roundw
            case rel=>exact⟨v-1,by go_num,by omega,by omega,hV.out.1.drawn nq,fun t h1 h2=>by
             by_cases e:t=v
             · subst e;rw[←HG2.out];have:=ht;exact(by have h:=ltI this;have:=hpa.out;omega)
             · exact hV.out.2 t (by omega) h2⟩
            case measure=>simp[intOf];omega
          · have ht:Sort.ltInt (G2 a) (G2 v)=false:=by assumption
            have hv2:Hid (dk[v]!≤p):=by refine af ?_;rw[←HG2.out v];exact(by have h:=geI ht;have:=hpa.out;omega)
            have S6:Hid (St w g off d dk (wr.drewN nq)/\∀t,v<t->t<=j->p<dk[t]!):=⟨hV.out.1.drawn nq,hV.out.2⟩
            generalize wr.drewN nq=W6 at S6 ⊢;clear hcw hfw HG2 hV ht;clear hpa;have huv2:u<v:=by
             rcases Nat.lt_or_ge u v with h | h
             · exact h
             · obtain rfl:u=v:=by omega
               have:=hu2.out;have:=hv2.out;omega
            obtain⟨G3,hG3,hc3,hf3⟩:=S6.out.1.fam H0.out hg;rw[HN.out]at hc3 hf3;have S7:Hid (St w g off d (Sort.swp dk u v) ((W6.setCell ⟨g,off+u,none⟩ (.int .u64 (G3 v))).setCell ⟨g,off+v,none⟩ (.int .u64 (G3 u))).drew):=S6.out.1.swap H0.out hg hG3 (by rw[HN.out];omega) (by rw[HN.out];omega) 1;have hds:dk.size=n:=by rw[S6.out.1.1,HN.out]
            have P7:Hid (Sort.PermIn a b d (Sort.swp dk u v)):=bj HK.out.1 (cf _ _ _ _ _ (by omega) (by omega) (by omega) (by omega) (by omega));have Q7:Hid (PartE a b (u+1) (v-1) p (Sort.swp dk u v)):=by
             refine PartE.swap ⟨AT.out,fun t h1 h2=>?_,fun t h1 h2=>?_⟩ (by omega) (by omega) huv2 (by omega) hu2.out hv2.out
             · by_cases e:t<i
               · exact HK.out.2.lo t h1 e
               · exact S5.out.2 t (by omega) h2
             · by_cases e:j<t
               · exact HK.out.2.hi t e h2
               · exact S6.out.2 t h1 (by omega)
            obtain⟨y3,hy3⟩:=cell?_setCell_some (w:=W6) (p:=⟨g,off+u,none⟩) (x:=.int .u64 (G3 v)) (q:=⟨g,off+v,none⟩) (hc3 v (by omega));clear hG3 hds S5 S6;go_wp2_with fail
            go_region
            go_wp2_with fail;go_roundw
            case rel=>exact⟨u+1,v-1,_,by go_num,by go_num,by omega,by omega,by omega,S7.out,P7.out,Q7.out⟩
            case measure=>simp[intOf];omega
        · have hd2:decide ((u:Int)<=(v:Int))=false:=df (by omega);go_wp2_with fail
          go_big_quiet (first | (go_at_call 158;refine Calls.quiet_of_same (aL _ _ _)))
          have S6:Hid (St w g off d dk (wr.drewN nq)/\∀t,v<t->t<=j->p<dk[t]!):=⟨hV.out.1.drawn nq,hV.out.2⟩
          generalize wr.drewN nq=W6 at S6 ⊢;clear hcw hfw HG2 hV;clear hpa;obtain rfl:u=v+1:=by omega
          have Q7:Hid (PartE a b (v+1) v p dk):=by
           refine⟨AT.out,fun t h1 h2=>?_,fun t h1 h2=>?_⟩
           · by_cases e:t<i
             · exact HK.out.2.lo t h1 e
             · exact S5.out.2 t (by omega) h2
           · by_cases e:j<t
             · exact HK.out.2.hi t e h2
             · exact S6.out.2 t h1 (by omega)
          clear S5;have hR:∃(m:Nat) (d':Array Int),Ending.returned (.int .i64 ((v+1:Nat):Int))=.returned (.int .i64 m)/\Sort.PermIn a b d d'/\St w g off d d' W6/\a<m/\m<=b/\(∀t,a<=t->t<m->d'[t]!≤d[pivot]!)/\∀t,m<=t->t<b->d[pivot]! < d'[t]! :=by
           refine⟨v+1,dk,rfl,HK.out.1,S6.out.1,by omega,by omega,fun t h1 h2=>?_,fun t h1 h2=>?_⟩
           · rw[HP.out];rcases Nat.lt_or_ge a t with h | h
             · exact Q7.out.lo t h h2
             · obtain rfl:t=a:=by omega
               rw[Q7.out.at'];exact Int.le_refl _
           · rw[HP.out];exact Q7.out.hi t (by omega) h2
          have HR:Hid _:=hR;clear hR S6 Q7;go_wp2_with fail;go_ret;exact HR.out
   · have hd1:decide ((u:Int)<=(j:Int))=false:=df (by omega);go_wp2_with fail
     go_big_quiet (first | (go_at_call 158;refine Calls.quiet_of_same (aL _ _ _)))
     go_wp2_with fail;have S5:Hid (St w g off d dk (wr.drewN nq)/\∀t,i<=t->t<u->dk[t]!≤p):=⟨hU.out.1.drawn nq,hU.out.2⟩
     have hW5:True:=trivial;generalize wr.drewN nq=W5 at S5 ⊢;clear hcw hfw HG1 hU hpa;go_loopw [10] (fun vj w2=>∃(v:Nat),vj=.int .i64 v/\v<=j/\u<=v+1/\Hid (St w g off d dk w2/\∀t,v<t->t<=j->p<dk[t]!)) (fun vj _=>(intOf vj).toNat)
     case atStart=>exact⟨j,by go_num,by omega,by omega,S5.out.1,fun t h1 h2=>by omega⟩
     case round =>
      clear hW5;obtain⟨v,rfl,hvj,huv,hV⟩:=hrel;obtain⟨G2,hG2,hcw,hfw⟩:=hV.out.1.fam H0.out hg;rw[HN.out]at hcw hfw;have HG2:Hid (∀t,G2 t=dk[t]!):=hG2;have hpa:Hid (G2 a=p):=by refine af ?_;rw[HG2.out];exact AT.out
      clear hG2;by_cases hle2:u<=v
      · exfalso;omega
      · have hd2:decide ((u:Int)<=(v:Int))=false:=df (by omega);go_wp2_with fail
        go_big_quiet (first | (go_at_call 158;refine Calls.quiet_of_same (aL _ _ _)))
        have S6:Hid (St w g off d dk (wr.drewN nq)/\∀t,v<t->t<=j->p<dk[t]!):=⟨hV.out.1.drawn nq,hV.out.2⟩
        generalize wr.drewN nq=W6 at S6 ⊢;clear hcw hfw HG2 hV;clear hpa;obtain rfl:u=v+1:=by omega
        have Q7:Hid (PartE a b (v+1) v p dk):=by
         refine⟨AT.out,fun t h1 h2=>?_,fun t h1 h2=>?_⟩
         · by_cases e:t<i
           · exact HK.out.2.lo t h1 e
           · exact S5.out.2 t (by omega) h2
         · by_cases e:j<t
           · exact HK.out.2.hi t e h2
           · exact S6.out.2 t h1 (by omega)
        clear S5;have hR:∃(m:Nat) (d':Array Int),Ending.returned (.int .i64 ((v+1:Nat):Int))=.returned (.int .i64 m)/\Sort.PermIn a b d d'/\St w g off d d' W6/\a<m/\m<=b/\(∀t,a<=t->t<m->d'[t]!≤d[pivot]!)/\∀t,m<=t->t<b->d[pivot]! < d'[t]! :=by
         refine⟨v+1,dk,rfl,HK.out.1,S6.out.1,by omega,by omega,fun t h1 h2=>?_,fun t h1 h2=>?_⟩
         · rw[HP.out];rcases Nat.lt_or_ge a t with h | h
           · exact Q7.out.lo t h h2
           · obtain rfl:t=a:=by omega
             rw[Q7.out.at'];exact Int.le_refl _
         · rw[HP.out];exact Q7.out.hi t (by omega) h2
        have HR:Hid _:=hR;clear hR S6 Q7;go_wp2_with fail;go_ret;exact HR.out
theorem IM (g off cap a b pivot n:Nat)(d:Array Int)(hn:d.size=n)(w:World)(hH:Sort.Holds (Value.int .u64) w g off d)(hg:g<w.heap.size)(hap:a<=pivot)(hpb:pivot<b)(hb:b<=n)(hsz:n<4611686018427387904) :
 Calls Tryz.prog 195 #[.slice (some ⟨g,off,none⟩) n cap,.int .i64 a,.int .i64 b,.int .i64 pivot] w fun e w' =>
  ∃(m:Nat) (f:Bool) (d':Array Int),e=.returned (.tuple #[.int .i64 m,.bool f])/\Sort.PermIn a b d d'/\fJ a b m d'/\St w g off d d' w':=by
 have H0:Hid (Sort.Holds (Value.int .u64) w g off d):=hH;have HN:Hid (d.size=n):=hn;have S0:Hid (St w g off d d w):=St.refl hH;obtain⟨G0,hG0,hc0,hf0⟩:=S0.out.fam H0.out hg;rw[hn]at hc0 hf0;have S1:Hid (St w g off d (Sort.swp d a pivot) ((w.setCell ⟨g,off+a,none⟩ (.int .u64 (G0 pivot))).setCell ⟨g,off+pivot,none⟩ (.int .u64 (G0 a))).drew):=S0.out.swap H0.out hg hG0 (by omega) (by omega) 1;have P1:Hid (Sort.PermIn a b d (Sort.swp d a pivot)):=cf _ _ _ _ _ (by omega) (by omega) (by omega) (by omega) (by omega);obtain⟨p,hp⟩:∃p,d[pivot]! =p:=⟨_,rfl⟩
 have A1:Hid ((Sort.swp d a pivot)[a]! =p):=by
  refine af ?_;by_cases e:a=pivot
  · subst e;rw[Sort.swp_right _ _ _ (by omega)];exact hp
  · rw[Sort.swp_left _ _ _ (by omega) e];exact hp
 have HP:Hid (d[pivot]! =p):=hp;obtain⟨y0,hy0⟩:=cell?_setCell_some (w:=w) (p:=⟨g,off+a,none⟩) (x:=.int .u64 (G0 pivot)) (q:=⟨g,off+pivot,none⟩) (hc0 pivot (by omega));clear hH hn hG0 hp S0
 go_enter Tryz.func195,Tryz.ntmps195
 go_wp2_with fail
 go_region
 go_wp2_with fail;clear hy0 y0 hc0 hf0;generalize ((w.setCell ⟨g,off+a,none⟩ (.int .u64 (G0 pivot))).setCell ⟨g,off+pivot,none⟩ (.int .u64 (G0 a))).drew=W1 at S1 ⊢;obtain⟨D1,hD1⟩:∃z,Sort.swp d a pivot=z:=⟨_,rfl⟩
 rw[hD1]at S1 P1 A1;clear hD1;obtain⟨i,hi0⟩:∃i,a+1=i:=⟨_,rfl⟩
 obtain⟨j,hj0⟩:∃j,b-1=j:=⟨_,rfl⟩
 rw[show(a:Int)+1=(i:Int)by omega,show(b:Int)-1=(j:Int)by omega];have hi:Hid (a+1=i):=hi0;have hj:Hid (b-1=j):=hj0;have hai:a<i:=by omega
 have hij:i<=j+1:=by omega
 have hjb:j<b:=by omega
 have hi1:i<=a+1:=by omega
 have hj1:b<=j+1:=by omega
 clear hi0 hj0;have HK:Hid (Sort.PermIn a b d D1/\True):=⟨P1.out,trivial⟩
 have AT:Hid (D1[a]! =p):=A1.out;have S:Hid (St w g off d D1 W1):=S1.out;clear S1 P1 A1;go_loopw [10] (fun vi w1=>∃(u:Nat),vi=.int .i64 u/\i<=u/\u<=j+1/\Hid (St w g off d D1 w1/\∀t,i<=t->t<u->D1[t]! < p)) (fun vi _=>j+1-(intOf vi).toNat)
 case atStart=>exact⟨i,by go_num,Nat.le_refl _,hij,S.out,fun t h1 h2=>by omega⟩
 case round =>
  clear S;obtain⟨u,rfl,hiu,huj,hU⟩:=hrel;obtain⟨G1,hG1,hcw,hfw⟩:=hU.out.1.fam H0.out hg;rw[HN.out]at hcw hfw;have HG1:Hid (∀t,G1 t=D1[t]!):=hG1;have hpa:Hid (G1 a=p):=by refine af ?_;rw[HG1.out];exact AT.out
  clear hG1;by_cases hle:u<=j
  · go_wp2_with fail
    go_big_quiet (first | (go_at_call 158;refine Calls.quiet_of_same (aL _ _ _)))
    go_wp2_with fail
    · have ht:Sort.ltInt (G1 u) (G1 a)=true:=by assumption
      go_roundw
      case rel=>exact⟨u+1,by go_num,by omega,by omega,hU.out.1.drawn nq,fun t h1 h2=>by
       by_cases e:t=u
       · subst e;rw[←HG1.out];have:=ht;exact(by have h:=ltI this;have:=hpa.out;omega)
       · exact hU.out.2 t h1 (by omega)⟩
      case measure=>simp[intOf];omega
    · have ht:Sort.ltInt (G1 u) (G1 a)=false:=by assumption
      have hu2:Hid (p<=D1[u]!):=by refine af ?_;rw[←HG1.out u];exact(by have h:=geI ht;have:=hpa.out;omega)
      have S5:Hid (St w g off d D1 (wr.drewN nq)/\∀t,i<=t->t<u->D1[t]! < p):=⟨hU.out.1.drawn nq,hU.out.2⟩
      have hW5:True:=trivial;generalize wr.drewN nq=W5 at S5 ⊢;clear hcw hfw HG1 hU ht hpa;go_loopw [11] (fun vj w2=>∃(v:Nat),vj=.int .i64 v/\v<=j/\u<=v+1/\Hid (St w g off d D1 w2/\∀t,v<t->t<=j->p<=D1[t]!)) (fun vj _=>(intOf vj).toNat)
      case atStart=>exact⟨j,by go_num,by omega,by omega,S5.out.1,fun t h1 h2=>by omega⟩
      case round =>
       clear hW5;obtain⟨v,rfl,hvj,huv,hV⟩:=hrel;obtain⟨G2,hG2,hcw,hfw⟩:=hV.out.1.fam H0.out hg;rw[HN.out]at hcw hfw;have HG2:Hid (∀t,G2 t=D1[t]!):=hG2;have hpa:Hid (G2 a=p):=by refine af ?_;rw[HG2.out];exact AT.out
       clear hG2;by_cases hle2:u<=v
       · go_wp2_with fail
         go_big_quiet (first | (go_at_call 158;refine Calls.quiet_of_same (aL _ _ _)))
         go_wp2_with fail
         · have ht:(!Sort.ltInt (G2 v) (G2 a))=true:=by assumption
           go_roundw
           case rel=>exact⟨v-1,by go_num,by omega,by omega,hV.out.1.drawn nq,fun t h1 h2=>by
            by_cases e:t=v
            · subst e;rw[←HG2.out];have:=ht;exact(by have h:=geI (cC this);have:=hpa.out;omega)
            · exact hV.out.2 t (by omega) h2⟩
           case measure=>simp[intOf];omega
         · have ht:(!Sort.ltInt (G2 v) (G2 a))=false:=by assumption
           have hv2:Hid (D1[v]! < p):=by refine af ?_;rw[←HG2.out v];exact(by have h:=ltI (dC ht);have:=hpa.out;omega)
           have S6:Hid (St w g off d D1 (wr.drewN nq)/\∀t,v<t->t<=j->p<=D1[t]!):=⟨hV.out.1.drawn nq,hV.out.2⟩
           generalize wr.drewN nq=W6 at S6 ⊢;clear hcw hfw HG2 hV ht;clear hpa;have huv2:u<v:=by
            rcases Nat.lt_or_ge u v with h | h
            · exact h
            · obtain rfl:u=v:=by omega
              have:=hu2.out;have:=hv2.out;omega
           obtain⟨G3,hG3,hc3,hf3⟩:=S6.out.1.fam H0.out hg;rw[HN.out]at hc3 hf3;have S7:Hid (St w g off d (Sort.swp D1 u v) ((W6.setCell ⟨g,off+u,none⟩ (.int .u64 (G3 v))).setCell ⟨g,off+v,none⟩ (.int .u64 (G3 u))).drew):=S6.out.1.swap H0.out hg hG3 (by rw[HN.out];omega) (by rw[HN.out];omega) 1;have hds:D1.size=n:=by rw[S6.out.1.1,HN.out]
           have P7:Hid (Sort.PermIn a b d (Sort.swp D1 u v)):=bj HK.out.1 (cf _ _ _ _ _ (by omega) (by omega) (by omega) (by omega) (by omega));have Q7:Hid (Part a b (u+1) (v-1) p (Sort.swp D1 u v)):=by
            refine Part.swap ⟨AT.out,fun t h1 h2=>?_,fun t h1 h2=>?_⟩ (by omega) (by omega) huv2 (by omega) hu2.out hv2.out
            · exact S5.out.2 t (by omega) h2
            · exact S6.out.2 t h1 (by omega)
           obtain⟨y3,hy3⟩:=cell?_setCell_some (w:=W6) (p:=⟨g,off+u,none⟩) (x:=.int .u64 (G3 v)) (q:=⟨g,off+v,none⟩) (hc3 v (by omega));clear hG3 hds S5 S6;go_wp2_with fail
           go_region
           go_wp2_with fail;generalize ((W6.setCell ⟨g,off+u,none⟩ (.int .u64 (G3 v))).setCell ⟨g,off+v,none⟩ (.int .u64 (G3 u))).drew=W7 at S7 ⊢;clear hy3 y3 hc3 hf3 HK hi hj hu2 hv2;go_loopw [10,11] (fun vi vj w1=>∃(i j:Nat) (dk:Array Int),vi=.int .i64 i/\vj=.int .i64 j/\a<i/\i<=j+1/\j<b/\Hid (St w g off d dk w1/\Sort.PermIn a b d dk/\Part a b i j p dk)) (fun vi vj _=>(intOf vj).toNat+1-(intOf vi).toNat)
           case atStart=>exact⟨u+1,v-1,_,by go_num,by go_num,by omega,by omega,by omega,S7.out,P7.out,Q7.out⟩
           case round =>
            clear S7 P7 Q7 AT hai hij hjb hiu huj hvj huv hle hle2 huv2;obtain⟨i,j,dk,rfl,rfl,hai,hij,hjb,hK⟩:=hrel;have HK:Hid (Sort.PermIn a b d dk/\Part a b i j p dk):=hK.out.2;have S:Hid (St w g off d dk wr):=hK.out.1;have AT:Hid (dk[a]! =p):=HK.out.2.at';clear hK;go_wp2_with fail;go_loopw [10] (fun vi w1=>∃(u:Nat),vi=.int .i64 u/\i<=u/\u<=j+1/\Hid (St w g off d dk w1/\∀t,i<=t->t<u->dk[t]! < p)) (fun vi _=>j+1-(intOf vi).toNat)
            case atStart=>exact⟨i,by go_num,Nat.le_refl _,hij,S.out,fun t h1 h2=>by omega⟩
            case round =>
             clear S;obtain⟨u,rfl,hiu,huj,hU⟩:=hrel;obtain⟨G1,hG1,hcw,hfw⟩:=hU.out.1.fam H0.out hg;rw[HN.out]at hcw hfw;have HG1:Hid (∀t,G1 t=dk[t]!):=hG1;have hpa:Hid (G1 a=p):=by refine af ?_;rw[HG1.out];exact AT.out
             clear hG1;by_cases hle:u<=j
             · go_wp2_with fail
               go_big_quiet (first | (go_at_call 158;refine Calls.quiet_of_same (aL _ _ _)))
               go_wp2_with fail
               · have ht:Sort.ltInt (G1 u) (G1 a)=true:=by assumption
                 go_roundw
                 case rel=>exact⟨u+1,by go_num,by omega,by omega,hU.out.1.drawn nq,fun t h1 h2=>by
                  by_cases e:t=u
                  · subst e;rw[←HG1.out];have:=ht;exact(by have h:=ltI this;have:=hpa.out;omega)
                  · exact hU.out.2 t h1 (by omega)⟩
                 case measure=>simp[intOf];omega
               · have ht:Sort.ltInt (G1 u) (G1 a)=false:=by assumption
                 have hu2:Hid (p<=dk[u]!):=by refine af ?_;rw[←HG1.out u];exact(by have h:=geI ht;have:=hpa.out;omega)
                 have S5:Hid (St w g off d dk (wr.drewN nq)/\∀t,i<=t->t<u->dk[t]! < p):=⟨hU.out.1.drawn nq,hU.out.2⟩
                 have hW5:True:=trivial;generalize wr.drewN nq=W5 at S5 ⊢;clear hcw hfw HG1 hU ht hpa;go_loopw [11] (fun vj w2=>∃(v:Nat),vj=.int .i64 v/\v<=j/\u<=v+1/\Hid (St w g off d dk w2/\∀t,v<t->t<=j->p<=dk[t]!)) (fun vj _=>(intOf vj).toNat)
                 case atStart=>exact⟨j,by go_num,by omega,by omega,S5.out.1,fun t h1 h2=>by omega⟩
                 case round =>
                  clear hW5;obtain⟨v,rfl,hvj,huv,hV⟩:=hrel;obtain⟨G2,hG2,hcw,hfw⟩:=hV.out.1.fam H0.out hg;rw[HN.out]at hcw hfw;have HG2:Hid (∀t,G2 t=dk[t]!):=hG2;have hpa:Hid (G2 a=p):=by refine af ?_;rw[HG2.out];exact AT.out
                  clear hG2;by_cases hle2:u<=v
                  · go_wp2_with fail
                    go_big_quiet (first | (go_at_call 158;refine Calls.quiet_of_same (aL _ _ _)))
                    go_wp2_with fail
                    · have ht:(!Sort.ltInt (G2 v) (G2 a))=true:=by assumption
                      go_roundw
                      case rel=>exact⟨v-1,by go_num,by omega,by omega,hV.out.1.drawn nq,fun t h1 h2=>by
                       by_cases e:t=v
                       · subst e;rw[←HG2.out];have:=ht;exact(by have h:=geI (cC this);have:=hpa.out;omega)
                       · exact hV.out.2 t (by omega) h2⟩
                      case measure=>simp[intOf];omega
                    · have ht:(!Sort.ltInt (G2 v) (G2 a))=false:=by assumption
                      have hv2:Hid (dk[v]! < p):=by refine af ?_;rw[←HG2.out v];exact(by have h:=ltI (dC ht);have:=hpa.out;omega)
                      have S6:Hid (St w g off d dk (wr.drewN nq)/\∀t,v<t->t<=j->p<=dk[t]!):=⟨hV.out.1.drawn nq,hV.out.2⟩
                      generalize wr.drewN nq=W6 at S6 ⊢;clear hcw hfw HG2 hV ht;clear hpa;have huv2:u<v:=by
                       rcases Nat.lt_or_ge u v with h | h
                       · exact h
                       · obtain rfl:u=v:=by omega
                         have:=hu2.out;have:=hv2.out;omega
                      obtain⟨G3,hG3,hc3,hf3⟩:=S6.out.1.fam H0.out hg;rw[HN.out]at hc3 hf3;have S7:Hid (St w g off d (Sort.swp dk u v) ((W6.setCell ⟨g,off+u,none⟩ (.int .u64 (G3 v))).setCell ⟨g,off+v,none⟩ (.int .u64 (G3 u))).drew):=S6.out.1.swap H0.out hg hG3 (by rw[HN.out];omega) (by rw[HN.out];omega) 1;have hds:dk.size=n:=by rw[S6.out.1.1,HN.out]
                      have P7:Hid (Sort.PermIn a b d (Sort.swp dk u v)):=bj HK.out.1 (cf _ _ _ _ _ (by omega) (by omega) (by omega) (by omega) (by omega));have Q7:Hid (Part a b (u+1) (v-1) p (Sort.swp dk u v)):=by
                       refine Part.swap ⟨AT.out,fun t h1 h2=>?_,fun t h1 h2=>?_⟩ (by omega) (by omega) huv2 (by omega) hu2.out hv2.out
                       · by_cases e:t<i
                         · exact HK.out.2.lo t h1 e
                         · exact S5.out.2 t (by omega) h2
                       · by_cases e:j<t
                         · exact HK.out.2.hi t e h2
                         · exact S6.out.2 t h1 (by omega)
                      obtain⟨y3,hy3⟩:=cell?_setCell_some (w:=W6) (p:=⟨g,off+u,none⟩) (x:=.int .u64 (G3 v)) (q:=⟨g,off+v,none⟩) (hc3 v (by omega));clear hG3 hds S5 S6;go_wp2_with fail
                      go_region
                      go_wp2_with fail;go_roundw
                      case rel=>exact⟨u+1,v-1,_,by go_num,by go_num,by omega,by omega,by omega,S7.out,P7.out,Q7.out⟩
                      case measure=>simp[intOf];omega
                  · have hd2:decide ((u:Int)<=(v:Int))=false:=df (by omega);go_wp2_with fail
                    go_big_quiet (first | (go_at_call 158;refine Calls.quiet_of_same (aL _ _ _)))
                    have S6:Hid (St w g off d dk (wr.drewN nq)/\∀t,v<t->t<=j->p<=dk[t]!):=⟨hV.out.1.drawn nq,hV.out.2⟩
                    generalize wr.drewN nq=W6 at S6 ⊢;clear hcw hfw HG2 hV;clear hpa;obtain rfl:u=v+1:=by omega
                    have Q7:Hid (Part a b (v+1) v p dk):=by
                     refine⟨AT.out,fun t h1 h2=>?_,fun t h1 h2=>?_⟩
                     · by_cases e:t<i
                       · exact HK.out.2.lo t h1 e
                       · exact S5.out.2 t (by omega) h2
                     · by_cases e:j<t
                       · exact HK.out.2.hi t e h2
                       · exact S6.out.2 t h1 (by omega)
                    clear S5;obtain⟨G3,hG3,hc3,hf3⟩:=S6.out.1.fam H0.out hg;rw[HN.out]at hc3 hf3;have hds:dk.size=n:=by rw[S6.out.1.1,HN.out]
                    have HR:Hid (∃(m:Nat) (f:Bool) (d':Array Int),Ending.returned (.tuple #[.int .i64 (v:Int),.bool false])=.returned (.tuple #[.int .i64 m,.bool f])/\Sort.PermIn a b d d'/\fJ a b m d'/\St w g off d d' ((W6.setCell ⟨g,off+v,none⟩ (.int .u64 (G3 a))).setCell ⟨g,off+a,none⟩ (.int .u64 (G3 v))).drew) :=
                     ⟨v,false,Sort.swp dk v a,rfl,bj HK.out.1 (cf _ _ _ _ _ (by omega) (by omega) (by omega) (by omega) (by omega)),Q7.out.done (by omega) (by omega) rfl (by omega),S6.out.1.swap H0.out hg hG3 (by rw[HN.out];omega) (by rw[HN.out];omega) 1⟩
                    obtain⟨y3,hy3⟩:=cell?_setCell_some (w:=W6) (p:=⟨g,off+v,none⟩) (x:=.int .u64 (G3 a)) (q:=⟨g,off+a,none⟩) (hc3 a (by omega));clear hG3 hds S6 Q7;go_wp2_with fail
                    go_region
                    go_wp2_with fail
                    go_ret2
                    exact HR.out
             · have hd1:decide ((u:Int)<=(j:Int))=false:=df (by omega);go_wp2_with fail
               go_big_quiet (first | (go_at_call 158;refine Calls.quiet_of_same (aL _ _ _)))
               go_wp2_with fail;have S5:Hid (St w g off d dk (wr.drewN nq)/\∀t,i<=t->t<u->dk[t]! < p):=⟨hU.out.1.drawn nq,hU.out.2⟩
               have hW5:True:=trivial;generalize wr.drewN nq=W5 at S5 ⊢;clear hcw hfw HG1 hU hpa;go_loopw [11] (fun vj w2=>∃(v:Nat),vj=.int .i64 v/\v<=j/\u<=v+1/\Hid (St w g off d dk w2/\∀t,v<t->t<=j->p<=dk[t]!)) (fun vj _=>(intOf vj).toNat)
               case atStart=>exact⟨j,by go_num,by omega,by omega,S5.out.1,fun t h1 h2=>by omega⟩
               case round =>
                clear hW5;obtain⟨v,rfl,hvj,huv,hV⟩:=hrel;obtain⟨G2,hG2,hcw,hfw⟩:=hV.out.1.fam H0.out hg;rw[HN.out]at hcw hfw;have HG2:Hid (∀t,G2 t=dk[t]!):=hG2;have hpa:Hid (G2 a=p):=by refine af ?_;rw[HG2.out];exact AT.out
                clear hG2;by_cases hle2:u<=v
                · exfalso;omega
                · have hd2:decide ((u:Int)<=(v:Int))=false:=df (by omega);go_wp2_with fail
                  go_big_quiet (first | (go_at_call 158;refine Calls.quiet_of_same (aL _ _ _)))
                  have S6:Hid (St w g off d dk (wr.drewN nq)/\∀t,v<t->t<=j->p<=dk[t]!):=⟨hV.out.1.drawn nq,hV.out.2⟩
                  generalize wr.drewN nq=W6 at S6 ⊢;clear hcw hfw HG2 hV;clear hpa;obtain rfl:u=v+1:=by omega
                  have Q7:Hid (Part a b (v+1) v p dk):=by
                   refine⟨AT.out,fun t h1 h2=>?_,fun t h1 h2=>?_⟩
                   · by_cases e:t<i
                     · exact HK.out.2.lo t h1 e
                     · exact S5.out.2 t (by omega) h2
                   · by_cases e:j<t
                     · exact HK.out.2.hi t e h2
                     · exact S6.out.2 t h1 (by omega)
                  clear S5;obtain⟨G3,hG3,hc3,hf3⟩:=S6.out.1.fam H0.out hg;rw[HN.out]at hc3 hf3;have hds:dk.size=n:=by rw[S6.out.1.1,HN.out]
                  have HR:Hid (∃(m:Nat) (f:Bool) (d':Array Int),Ending.returned (.tuple #[.int .i64 (v:Int),.bool false])=.returned (.tuple #[.int .i64 m,.bool f])/\Sort.PermIn a b d d'/\fJ a b m d'/\St w g off d d' ((W6.setCell ⟨g,off+v,none⟩ (.int .u64 (G3 a))).setCell ⟨g,off+a,none⟩ (.int .u64 (G3 v))).drew) :=
                   ⟨v,false,Sort.swp dk v a,rfl,bj HK.out.1 (cf _ _ _ _ _ (by omega) (by omega) (by omega) (by omega) (by omega)),Q7.out.done (by omega) (by omega) rfl (by omega),S6.out.1.swap H0.out hg hG3 (by rw[HN.out];omega) (by rw[HN.out];omega) 1⟩
                  obtain⟨y3,hy3⟩:=cell?_setCell_some (w:=W6) (p:=⟨g,off+v,none⟩) (x:=.int .u64 (G3 a)) (q:=⟨g,off+a,none⟩) (hc3 a (by omega));clear hG3 hds S6 Q7;go_wp2_with fail
                  go_region
                  go_wp2_with fail
                  go_ret2
                  exact HR.out
       · have hd2:decide ((u:Int)<=(v:Int))=false:=df (by omega);go_wp2_with fail
         go_big_quiet (first | (go_at_call 158;refine Calls.quiet_of_same (aL _ _ _)))
         have S6:Hid (St w g off d D1 (wr.drewN nq)/\∀t,v<t->t<=j->p<=D1[t]!):=⟨hV.out.1.drawn nq,hV.out.2⟩
         generalize wr.drewN nq=W6 at S6 ⊢;clear hcw hfw HG2 hV;clear hpa;obtain rfl:u=v+1:=by omega
         have Q7:Hid (Part a b (v+1) v p D1):=⟨AT.out,fun t h1 h2=>S5.out.2 t (by omega) h2,fun t h1 h2=>S6.out.2 t h1 (by omega)⟩
         clear S5;obtain⟨G3,hG3,hc3,hf3⟩:=S6.out.1.fam H0.out hg;rw[HN.out]at hc3 hf3;have hds:D1.size=n:=by rw[S6.out.1.1,HN.out]
         have HR:Hid (∃(m:Nat) (f:Bool) (d':Array Int),Ending.returned (.tuple #[.int .i64 (v:Int),.bool true])=.returned (.tuple #[.int .i64 m,.bool f])/\Sort.PermIn a b d d'/\fJ a b m d'/\St w g off d d' ((W6.setCell ⟨g,off+v,none⟩ (.int .u64 (G3 a))).setCell ⟨g,off+a,none⟩ (.int .u64 (G3 v))).drew) :=
          ⟨v,true,Sort.swp D1 v a,rfl,bj HK.out.1 (cf _ _ _ _ _ (by omega) (by omega) (by omega) (by omega) (by omega)),Q7.out.done (by omega) (by omega) rfl (by omega),S6.out.1.swap H0.out hg hG3 (by rw[HN.out];omega) (by rw[HN.out];omega) 1⟩
         obtain⟨y3,hy3⟩:=cell?_setCell_some (w:=W6) (p:=⟨g,off+v,none⟩) (x:=.int .u64 (G3 a)) (q:=⟨g,off+a,none⟩) (hc3 a (by omega));clear hG3 hds S6 Q7;go_wp2_with fail
         go_region
         go_wp2_with fail
         go_ret2
         exact HR.out
  · have hd1:decide ((u:Int)<=(j:Int))=false:=df (by omega);go_wp2_with fail
    go_big_quiet (first | (go_at_call 158;refine Calls.quiet_of_same (aL _ _ _)))
    go_wp2_with fail;have S5:Hid (St w g off d D1 (wr.drewN nq)/\∀t,i<=t->t<u->D1[t]! < p):=⟨hU.out.1.drawn nq,hU.out.2⟩
    have hW5:True:=trivial;generalize wr.drewN nq=W5 at S5 ⊢;clear hcw hfw HG1 hU hpa;go_loopw [11] (fun vj w2=>∃(v:Nat),vj=.int .i64 v/\v<=j/\u<=v+1/\Hid (St w g off d D1 w2/\∀t,v<t->t<=j->p<=D1[t]!)) (fun vj _=>(intOf vj).toNat)
    case atStart=>exact⟨j,by go_num,by omega,by omega,S5.out.1,fun t h1 h2=>by omega⟩
    case round =>
     clear hW5;obtain⟨v,rfl,hvj,huv,hV⟩:=hrel;obtain⟨G2,hG2,hcw,hfw⟩:=hV.out.1.fam H0.out hg;rw[HN.out]at hcw hfw;have HG2:Hid (∀t,G2 t=D1[t]!):=hG2;have hpa:Hid (G2 a=p):=by refine af ?_;rw[HG2.out];exact AT.out
     clear hG2;by_cases hle2:u<=v
     · exfalso;omega
     · have hd2:decide ((u:Int)<=(v:Int))=false:=df (by omega);go_wp2_with fail
       go_big_quiet (first | (go_at_call 158;refine Calls.quiet_of_same (aL _ _ _)))
       have S6:Hid (St w g off d D1 (wr.drewN nq)/\∀t,v<t->t<=j->p<=D1[t]!):=⟨hV.out.1.drawn nq,hV.out.2⟩
       generalize wr.drewN nq=W6 at S6 ⊢;clear hcw hfw HG2 hV;clear hpa;obtain rfl:u=v+1:=by omega
       have Q7:Hid (Part a b (v+1) v p D1):=⟨AT.out,fun t h1 h2=>S5.out.2 t (by omega) h2,fun t h1 h2=>S6.out.2 t h1 (by omega)⟩
       clear S5;obtain⟨G3,hG3,hc3,hf3⟩:=S6.out.1.fam H0.out hg;rw[HN.out]at hc3 hf3;have hds:D1.size=n:=by rw[S6.out.1.1,HN.out]
       have HR:Hid (∃(m:Nat) (f:Bool) (d':Array Int),Ending.returned (.tuple #[.int .i64 (v:Int),.bool true])=.returned (.tuple #[.int .i64 m,.bool f])/\Sort.PermIn a b d d'/\fJ a b m d'/\St w g off d d' ((W6.setCell ⟨g,off+v,none⟩ (.int .u64 (G3 a))).setCell ⟨g,off+a,none⟩ (.int .u64 (G3 v))).drew) :=
        ⟨v,true,Sort.swp D1 v a,rfl,bj HK.out.1 (cf _ _ _ _ _ (by omega) (by omega) (by omega) (by omega) (by omega)),Q7.out.done (by omega) (by omega) rfl (by omega),S6.out.1.swap H0.out hg hG3 (by rw[HN.out];omega) (by rw[HN.out];omega) 1⟩
       obtain⟨y3,hy3⟩:=cell?_setCell_some (w:=W6) (p:=⟨g,off+v,none⟩) (x:=.int .u64 (G3 a)) (q:=⟨g,off+a,none⟩) (hc3 a (by omega));clear hG3 hds S6 Q7;go_wp2_with fail
       go_region
       go_wp2_with fail
       go_ret2
       exact HR.out
end Go.Proofs.YtbnlhdnnenahfaaGreatDoor
