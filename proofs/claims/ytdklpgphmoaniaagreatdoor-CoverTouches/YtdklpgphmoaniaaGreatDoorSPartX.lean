/-
  The library's two partitions of a row of words, at this program: what lies left of the place told and what right of it; in whatever memory.
-/
import Derived.Test.YtdklpgphmoaniaaGreatDoorJn01
namespace Go.Proofs.YtdklpgphmoaniaaGreatDoor
open Go.RowKit
theorem hid_mk {p:Prop} (h:p):Hid p:=h
theorem not_yes {b:Bool} (h:(!b)=true):b=false:=by simpa using h
theorem not_no {b:Bool} (h:(!b)=false):b=true:=by simpa using h
theorem ltI {x y:Int} (h:Sort.ltInt x y=true):x < y:=by simpa [Sort.ltInt] using h
theorem geI {x y:Int} (h:Sort.ltInt x y=false):y≤x:=by simp [Sort.ltInt] at h;omega
set_option maxHeartbeats 16000000 in
set_option maxRecDepth 100000 in
theorem u_parteq (g off cap a b pivot n:Nat) (d:Array Int) (hn:d.size=n) (w:World) (hH:Sort.Holds (Value.int .u64) w g off d) (hg:g < w.heap.size) (hap:a≤pivot) (hpb:pivot < b) (hb:b≤n) (hsz:n < 4611686018427387904) :
 Calls Tryz.prog 151 #[.slice (some ⟨g,off,none⟩) n cap,.int .i64 a,.int .i64 b,.int .i64 pivot] w fun e w' =>
  ∃ (m:Nat) (d':Array Int),e=.returned (.int .i64 m)∧Sort.PermIn a b d d'∧St w g off d d' w'∧a < m∧m≤b∧(∀ t,a≤t→t < m→d'[t]!≤d[pivot]!)∧∀ t,m≤t→t < b→d[pivot]! < d'[t]! :=by
 have H0:Hid (Sort.Holds (Value.int .u64) w g off d):=hH
 have HN:Hid (d.size=n):=hn
 have S0:Hid (St w g off d d w):=St.refl hH
 obtain ⟨G0,hG0,hc0,hf0⟩:=S0.out.fam H0.out hg
 rw [hn] at hc0 hf0
 have S1:Hid (St w g off d (Sort.swp d a pivot) ((w.setCell ⟨g,off+a,none⟩ (.int .u64 (G0 pivot))).setCell ⟨g,off+pivot,none⟩ (.int .u64 (G0 a))).drew):=S0.out.swap H0.out hg hG0 (by omega) (by omega) 1
 have P1:Hid (Sort.PermIn a b d (Sort.swp d a pivot)):=swp_perm _ _ _ _ _ (by omega) (by omega) (by omega) (by omega) (by omega)
 obtain ⟨p,hp⟩:∃ p,d[pivot]! =p:=⟨_,rfl⟩
 have A1:Hid ((Sort.swp d a pivot)[a]! =p):=by
  refine hid_mk ?_
  by_cases e:a=pivot
  · subst e;rw [Sort.swp_right _ _ _ (by omega)];exact hp
  · rw [Sort.swp_left _ _ _ (by omega) e];exact hp
 have HP:Hid (d[pivot]! =p):=hp
 obtain ⟨y0,hy0⟩:=cell?_setCell_some (w:=w) (p:=⟨g,off+a,none⟩) (x:=.int .u64 (G0 pivot)) (q:=⟨g,off+pivot,none⟩) (hc0 pivot (by omega))
 clear hH hn hG0 hp S0
 go_enter Tryz.func151,Tryz.ntmps151
 go_wp2_with fail
 go_region
 go_wp2_with fail
 clear hy0 y0 hc0 hf0
 generalize ((w.setCell ⟨g,off+a,none⟩ (.int .u64 (G0 pivot))).setCell ⟨g,off+pivot,none⟩ (.int .u64 (G0 a))).drew=W1 at S1 ⊢
 obtain ⟨D1,hD1⟩:∃ z,Sort.swp d a pivot=z:=⟨_,rfl⟩
 rw [hD1] at S1 P1 A1
 clear hD1
 go_loopw [9,10] (fun vi vj w1=>∃ (i j:Nat) (dk:Array Int),vi=.int .i64 i∧vj=.int .i64 j∧a < i∧i≤j+1∧j < b∧Hid (St w g off d dk w1∧Sort.PermIn a b d dk∧PartE a b i j p dk)) (fun vi vj _=>(intOf vj).toNat+1 - (intOf vi).toNat)
 case atStart=>exact ⟨a+1,b - 1,D1,by go_num,by go_num,by omega,by omega,by omega,S1.out,P1.out,⟨A1.out,fun t h1 h2=>by omega,fun t h1 h2=>by omega⟩⟩
 case round =>
  clear S1 P1 A1
  obtain ⟨i,j,dk,rfl,rfl,hai,hij,hjb,hK⟩:=hrel
  have HK:Hid (Sort.PermIn a b d dk∧PartE a b i j p dk):=hK.out.2
  have S:Hid (St w g off d dk wr):=hK.out.1
  have AT:Hid (dk[a]! =p):=HK.out.2.at'
  clear hK
  go_wp2_with fail
  go_loopw [9] (fun vi w1=>∃ (u:Nat),vi=.int .i64 u∧i≤u∧u≤j+1∧Hid (St w g off d dk w1∧∀ t,i≤t→t < u→dk[t]!≤p)) (fun vi _=>j+1 - (intOf vi).toNat)
  case atStart=>exact ⟨i,by go_num,Nat.le_refl _,hij,S.out,fun t h1 h2=>by omega⟩
  case round =>
   clear S
   obtain ⟨u,rfl,hiu,huj,hU⟩:=hrel
   obtain ⟨G1,hG1,hcw,hfw⟩:=hU.out.1.fam H0.out hg
   rw [HN.out] at hcw hfw
   have HG1:Hid (∀ t,G1 t=dk[t]!):=hG1
   have hpa:Hid (G1 a=p):=by refine hid_mk ?_;rw [HG1.out];exact AT.out
   clear hG1
   by_cases hle:u≤j
   · go_wp2_with fail
     go_big_quiet (first | (go_at_call 150;refine Calls.quiet_of_same (u_less _ _ _)))
     go_wp2_with fail
     · have ht:(!Sort.ltInt (G1 a) (G1 u))=true:=by assumption
       go_roundw
       case rel=>exact ⟨u+1,by go_num,by omega,by omega,hU.out.1.drawn nq,fun t h1 h2=>by
        by_cases e:t=u
        · subst e;rw [← HG1.out];have:=ht;exact (by have h:=geI (not_yes this);have:=hpa.out;omega)
        · exact hU.out.2 t h1 (by omega)⟩
       case measure=>simp [intOf];omega
     · have ht:(!Sort.ltInt (G1 a) (G1 u))=false:=by assumption
       have hu2:Hid (p < dk[u]!):=by refine hid_mk ?_;rw [← HG1.out u];exact (by have h:=ltI (not_no ht);have:=hpa.out;omega)
       have S5:Hid (St w g off d dk (wr.drewN nq)∧∀ t,i≤t→t < u→dk[t]!≤p):=⟨hU.out.1.drawn nq,hU.out.2⟩
       have hW5:True:=trivial
       generalize wr.drewN nq=W5 at S5 ⊢
       clear hcw hfw HG1 hU ht hpa
       go_loopw [10] (fun vj w2=>∃ (v:Nat),vj=.int .i64 v∧v≤j∧u≤v+1∧Hid (St w g off d dk w2∧∀ t,v < t→t≤j→p < dk[t]!)) (fun vj _=>(intOf vj).toNat)
       case atStart=>exact ⟨j,by go_num,by omega,by omega,S5.out.1,fun t h1 h2=>by omega⟩
       case round =>
        clear hW5
        obtain ⟨v,rfl,hvj,huv,hV⟩:=hrel
        obtain ⟨G2,hG2,hcw,hfw⟩:=hV.out.1.fam H0.out hg
        rw [HN.out] at hcw hfw
        have HG2:Hid (∀ t,G2 t=dk[t]!):=hG2
        have hpa:Hid (G2 a=p):=by refine hid_mk ?_;rw [HG2.out];exact AT.out
        clear hG2
        by_cases hle2:u≤v
        · go_wp2_with fail
          go_big_quiet (first | (go_at_call 150;refine Calls.quiet_of_same (u_less _ _ _)))
          go_wp2_with fail
          · have ht:Sort.ltInt (G2 a) (G2 v)=true:=by assumption
            go_roundw
            case rel=>exact ⟨v - 1,by go_num,by omega,by omega,hV.out.1.drawn nq,fun t h1 h2=>by
             by_cases e:t=v
             · subst e;rw [← HG2.out];have:=ht;exact (by have h:=ltI this;have:=hpa.out;omega)
             · exact hV.out.2 t (by omega) h2⟩
            case measure=>simp [intOf];omega
          · have ht:Sort.ltInt (G2 a) (G2 v)=false:=by assumption
            have hv2:Hid (dk[v]!≤p):=by refine hid_mk ?_;rw [← HG2.out v];exact (by have h:=geI ht;have:=hpa.out;omega)
            have S6:Hid (St w g off d dk (wr.drewN nq)∧∀ t,v < t→t≤j→p < dk[t]!):=⟨hV.out.1.drawn nq,hV.out.2⟩
            generalize wr.drewN nq=W6 at S6 ⊢
            clear hcw hfw HG2 hV ht
            clear hpa
            have huv2:u < v:=by
             rcases Nat.lt_or_ge u v with h | h
             · exact h
             · obtain rfl:u=v:=by omega
               have:=hu2.out;have:=hv2.out;omega
            obtain ⟨G3,hG3,hc3,hf3⟩:=S6.out.1.fam H0.out hg
            rw [HN.out] at hc3 hf3
            have S7:Hid (St w g off d (Sort.swp dk u v) ((W6.setCell ⟨g,off+u,none⟩ (.int .u64 (G3 v))).setCell ⟨g,off+v,none⟩ (.int .u64 (G3 u))).drew):=S6.out.1.swap H0.out hg hG3 (by rw [HN.out];omega) (by rw [HN.out];omega) 1
            have hds:dk.size=n:=by rw [S6.out.1.1,HN.out]
            have P7:Hid (Sort.PermIn a b d (Sort.swp dk u v)):=perm_trans HK.out.1 (swp_perm _ _ _ _ _ (by omega) (by omega) (by omega) (by omega) (by omega))
            have Q7:Hid (PartE a b (u+1) (v - 1) p (Sort.swp dk u v)):=by
             refine PartE.swap ⟨AT.out,fun t h1 h2=>?_,fun t h1 h2=>?_⟩ (by omega) (by omega) huv2 (by omega) hu2.out hv2.out
             · by_cases e:t < i
               · exact HK.out.2.lo t h1 e
               · exact S5.out.2 t (by omega) h2
             · by_cases e:j < t
               · exact HK.out.2.hi t e h2
               · exact S6.out.2 t h1 (by omega)
            obtain ⟨y3,hy3⟩:=cell?_setCell_some (w:=W6) (p:=⟨g,off+u,none⟩) (x:=.int .u64 (G3 v)) (q:=⟨g,off+v,none⟩) (hc3 v (by omega))
            clear hG3 hds S5 S6
            go_wp2_with fail
            go_region
            go_wp2_with fail
            go_roundw
            case rel=>exact ⟨u+1,v - 1,_,by go_num,by go_num,by omega,by omega,by omega,S7.out,P7.out,Q7.out⟩
            case measure=>simp [intOf];omega
        · have hd2:decide ((u:Int)≤(v:Int))=false:=df (by omega)
          go_wp2_with fail
          go_big_quiet (first | (go_at_call 150;refine Calls.quiet_of_same (u_less _ _ _)))
          have S6:Hid (St w g off d dk (wr.drewN nq)∧∀ t,v < t→t≤j→p < dk[t]!):=⟨hV.out.1.drawn nq,hV.out.2⟩
          generalize wr.drewN nq=W6 at S6 ⊢
          clear hcw hfw HG2 hV
          clear hpa
          obtain rfl:u=v+1:=by omega
          have Q7:Hid (PartE a b (v+1) v p dk):=by
           refine ⟨AT.out,fun t h1 h2=>?_,fun t h1 h2=>?_⟩
           · by_cases e:t < i
             · exact HK.out.2.lo t h1 e
             · exact S5.out.2 t (by omega) h2
           · by_cases e:j < t
             · exact HK.out.2.hi t e h2
             · exact S6.out.2 t h1 (by omega)
          clear S5
          have hR:∃ (m:Nat) (d':Array Int),Ending.returned (.int .i64 ((v+1:Nat):Int))=.returned (.int .i64 m)∧Sort.PermIn a b d d'∧St w g off d d' W6∧a < m∧m≤b∧(∀ t,a≤t→t < m→d'[t]!≤d[pivot]!)∧∀ t,m≤t→t < b→d[pivot]! < d'[t]! :=by
           refine ⟨v+1,dk,rfl,HK.out.1,S6.out.1,by omega,by omega,fun t h1 h2=>?_,fun t h1 h2=>?_⟩
           · rw [HP.out]
             rcases Nat.lt_or_ge a t with h | h
             · exact Q7.out.lo t h h2
             · obtain rfl:t=a:=by omega
               rw [Q7.out.at'];exact Int.le_refl _
           · rw [HP.out];exact Q7.out.hi t (by omega) h2
          have HR:Hid _:=hR
          clear hR S6 Q7
          go_wp2_with fail
          go_ret
          exact HR.out
   · have hd1:decide ((u:Int)≤(j:Int))=false:=df (by omega)
     go_wp2_with fail
     go_big_quiet (first | (go_at_call 150;refine Calls.quiet_of_same (u_less _ _ _)))
     go_wp2_with fail
     have S5:Hid (St w g off d dk (wr.drewN nq)∧∀ t,i≤t→t < u→dk[t]!≤p):=⟨hU.out.1.drawn nq,hU.out.2⟩
     have hW5:True:=trivial
     generalize wr.drewN nq=W5 at S5 ⊢
     clear hcw hfw HG1 hU hpa
     go_loopw [10] (fun vj w2=>∃ (v:Nat),vj=.int .i64 v∧v≤j∧u≤v+1∧Hid (St w g off d dk w2∧∀ t,v < t→t≤j→p < dk[t]!)) (fun vj _=>(intOf vj).toNat)
     case atStart=>exact ⟨j,by go_num,by omega,by omega,S5.out.1,fun t h1 h2=>by omega⟩
     case round =>
      clear hW5
      obtain ⟨v,rfl,hvj,huv,hV⟩:=hrel
      obtain ⟨G2,hG2,hcw,hfw⟩:=hV.out.1.fam H0.out hg
      rw [HN.out] at hcw hfw
      have HG2:Hid (∀ t,G2 t=dk[t]!):=hG2
      have hpa:Hid (G2 a=p):=by refine hid_mk ?_;rw [HG2.out];exact AT.out
      clear hG2
      by_cases hle2:u≤v
      · exfalso;omega
      · have hd2:decide ((u:Int)≤(v:Int))=false:=df (by omega)
        go_wp2_with fail
        go_big_quiet (first | (go_at_call 150;refine Calls.quiet_of_same (u_less _ _ _)))
        have S6:Hid (St w g off d dk (wr.drewN nq)∧∀ t,v < t→t≤j→p < dk[t]!):=⟨hV.out.1.drawn nq,hV.out.2⟩
        generalize wr.drewN nq=W6 at S6 ⊢
        clear hcw hfw HG2 hV
        clear hpa
        obtain rfl:u=v+1:=by omega
        have Q7:Hid (PartE a b (v+1) v p dk):=by
         refine ⟨AT.out,fun t h1 h2=>?_,fun t h1 h2=>?_⟩
         · by_cases e:t < i
           · exact HK.out.2.lo t h1 e
           · exact S5.out.2 t (by omega) h2
         · by_cases e:j < t
           · exact HK.out.2.hi t e h2
           · exact S6.out.2 t h1 (by omega)
        clear S5
        have hR:∃ (m:Nat) (d':Array Int),Ending.returned (.int .i64 ((v+1:Nat):Int))=.returned (.int .i64 m)∧Sort.PermIn a b d d'∧St w g off d d' W6∧a < m∧m≤b∧(∀ t,a≤t→t < m→d'[t]!≤d[pivot]!)∧∀ t,m≤t→t < b→d[pivot]! < d'[t]! :=by
         refine ⟨v+1,dk,rfl,HK.out.1,S6.out.1,by omega,by omega,fun t h1 h2=>?_,fun t h1 h2=>?_⟩
         · rw [HP.out]
           rcases Nat.lt_or_ge a t with h | h
           · exact Q7.out.lo t h h2
           · obtain rfl:t=a:=by omega
             rw [Q7.out.at'];exact Int.le_refl _
         · rw [HP.out];exact Q7.out.hi t (by omega) h2
        have HR:Hid _:=hR
        clear hR S6 Q7
        go_wp2_with fail
        go_ret
        exact HR.out
set_option maxHeartbeats 16000000 in
set_option maxRecDepth 100000 in
theorem u_part (g off cap a b pivot n:Nat) (d:Array Int) (hn:d.size=n) (w:World) (hH:Sort.Holds (Value.int .u64) w g off d) (hg:g < w.heap.size) (hap:a≤pivot) (hpb:pivot < b) (hb:b≤n) (hsz:n < 4611686018427387904) :
 Calls Tryz.prog 152 #[.slice (some ⟨g,off,none⟩) n cap,.int .i64 a,.int .i64 b,.int .i64 pivot] w fun e w' =>
  ∃ (m:Nat) (f:Bool) (d':Array Int),e=.returned (.tuple #[.int .i64 m,.bool f])∧Sort.PermIn a b d d'∧Parted a b m d'∧St w g off d d' w':=by
 have H0:Hid (Sort.Holds (Value.int .u64) w g off d):=hH
 have HN:Hid (d.size=n):=hn
 have S0:Hid (St w g off d d w):=St.refl hH
 obtain ⟨G0,hG0,hc0,hf0⟩:=S0.out.fam H0.out hg
 rw [hn] at hc0 hf0
 have S1:Hid (St w g off d (Sort.swp d a pivot) ((w.setCell ⟨g,off+a,none⟩ (.int .u64 (G0 pivot))).setCell ⟨g,off+pivot,none⟩ (.int .u64 (G0 a))).drew):=S0.out.swap H0.out hg hG0 (by omega) (by omega) 1
 have P1:Hid (Sort.PermIn a b d (Sort.swp d a pivot)):=swp_perm _ _ _ _ _ (by omega) (by omega) (by omega) (by omega) (by omega)
 obtain ⟨p,hp⟩:∃ p,d[pivot]! =p:=⟨_,rfl⟩
 have A1:Hid ((Sort.swp d a pivot)[a]! =p):=by
  refine hid_mk ?_
  by_cases e:a=pivot
  · subst e;rw [Sort.swp_right _ _ _ (by omega)];exact hp
  · rw [Sort.swp_left _ _ _ (by omega) e];exact hp
 have HP:Hid (d[pivot]! =p):=hp
 obtain ⟨y0,hy0⟩:=cell?_setCell_some (w:=w) (p:=⟨g,off+a,none⟩) (x:=.int .u64 (G0 pivot)) (q:=⟨g,off+pivot,none⟩) (hc0 pivot (by omega))
 clear hH hn hG0 hp S0
 go_enter Tryz.func152,Tryz.ntmps152
 go_wp2_with fail
 go_region
 go_wp2_with fail
 clear hy0 y0 hc0 hf0
 generalize ((w.setCell ⟨g,off+a,none⟩ (.int .u64 (G0 pivot))).setCell ⟨g,off+pivot,none⟩ (.int .u64 (G0 a))).drew=W1 at S1 ⊢
 obtain ⟨D1,hD1⟩:∃ z,Sort.swp d a pivot=z:=⟨_,rfl⟩
 rw [hD1] at S1 P1 A1
 clear hD1
 obtain ⟨i,hi0⟩:∃ i,a+1=i:=⟨_,rfl⟩
 obtain ⟨j,hj0⟩:∃ j,b - 1=j:=⟨_,rfl⟩
 rw [show (a:Int)+1=(i:Int) by omega,show (b:Int) - 1=(j:Int) by omega]
 have hi:Hid (a+1=i):=hi0
 have hj:Hid (b - 1=j):=hj0
 have hai:a < i:=by omega
 have hij:i≤j+1:=by omega
 have hjb:j < b:=by omega
 have hi1:i≤a+1:=by omega
 have hj1:b≤j+1:=by omega
 clear hi0 hj0
 have HK:Hid (Sort.PermIn a b d D1∧True):=⟨P1.out,trivial⟩
 have AT:Hid (D1[a]! =p):=A1.out
 have S:Hid (St w g off d D1 W1):=S1.out
 clear S1 P1 A1
 go_loopw [10] (fun vi w1=>∃ (u:Nat),vi=.int .i64 u∧i≤u∧u≤j+1∧Hid (St w g off d D1 w1∧∀ t,i≤t→t < u→D1[t]! < p)) (fun vi _=>j+1 - (intOf vi).toNat)
 case atStart=>exact ⟨i,by go_num,Nat.le_refl _,hij,S.out,fun t h1 h2=>by omega⟩
 case round =>
  clear S
  obtain ⟨u,rfl,hiu,huj,hU⟩:=hrel
  obtain ⟨G1,hG1,hcw,hfw⟩:=hU.out.1.fam H0.out hg
  rw [HN.out] at hcw hfw
  have HG1:Hid (∀ t,G1 t=D1[t]!):=hG1
  have hpa:Hid (G1 a=p):=by refine hid_mk ?_;rw [HG1.out];exact AT.out
  clear hG1
  by_cases hle:u≤j
  · go_wp2_with fail
    go_big_quiet (first | (go_at_call 150;refine Calls.quiet_of_same (u_less _ _ _)))
    go_wp2_with fail
    · have ht:Sort.ltInt (G1 u) (G1 a)=true:=by assumption
      go_roundw
      case rel=>exact ⟨u+1,by go_num,by omega,by omega,hU.out.1.drawn nq,fun t h1 h2=>by
       by_cases e:t=u
       · subst e;rw [← HG1.out];have:=ht;exact (by have h:=ltI this;have:=hpa.out;omega)
       · exact hU.out.2 t h1 (by omega)⟩
      case measure=>simp [intOf];omega
    · have ht:Sort.ltInt (G1 u) (G1 a)=false:=by assumption
      have hu2:Hid (p≤D1[u]!):=by refine hid_mk ?_;rw [← HG1.out u];exact (by have h:=geI ht;have:=hpa.out;omega)
      have S5:Hid (St w g off d D1 (wr.drewN nq)∧∀ t,i≤t→t < u→D1[t]! < p):=⟨hU.out.1.drawn nq,hU.out.2⟩
      have hW5:True:=trivial
      generalize wr.drewN nq=W5 at S5 ⊢
      clear hcw hfw HG1 hU ht hpa
      go_loopw [11] (fun vj w2=>∃ (v:Nat),vj=.int .i64 v∧v≤j∧u≤v+1∧Hid (St w g off d D1 w2∧∀ t,v < t→t≤j→p≤D1[t]!)) (fun vj _=>(intOf vj).toNat)
      case atStart=>exact ⟨j,by go_num,by omega,by omega,S5.out.1,fun t h1 h2=>by omega⟩
      case round =>
       clear hW5
       obtain ⟨v,rfl,hvj,huv,hV⟩:=hrel
       obtain ⟨G2,hG2,hcw,hfw⟩:=hV.out.1.fam H0.out hg
       rw [HN.out] at hcw hfw
       have HG2:Hid (∀ t,G2 t=D1[t]!):=hG2
       have hpa:Hid (G2 a=p):=by refine hid_mk ?_;rw [HG2.out];exact AT.out
       clear hG2
       by_cases hle2:u≤v
       · go_wp2_with fail
         go_big_quiet (first | (go_at_call 150;refine Calls.quiet_of_same (u_less _ _ _)))
         go_wp2_with fail
         · have ht:(!Sort.ltInt (G2 v) (G2 a))=true:=by assumption
           go_roundw
           case rel=>exact ⟨v - 1,by go_num,by omega,by omega,hV.out.1.drawn nq,fun t h1 h2=>by
            by_cases e:t=v
            · subst e;rw [← HG2.out];have:=ht;exact (by have h:=geI (not_yes this);have:=hpa.out;omega)
            · exact hV.out.2 t (by omega) h2⟩
           case measure=>simp [intOf];omega
         · have ht:(!Sort.ltInt (G2 v) (G2 a))=false:=by assumption
           have hv2:Hid (D1[v]! < p):=by refine hid_mk ?_;rw [← HG2.out v];exact (by have h:=ltI (not_no ht);have:=hpa.out;omega)
           have S6:Hid (St w g off d D1 (wr.drewN nq)∧∀ t,v < t→t≤j→p≤D1[t]!):=⟨hV.out.1.drawn nq,hV.out.2⟩
           generalize wr.drewN nq=W6 at S6 ⊢
           clear hcw hfw HG2 hV ht
           clear hpa
           have huv2:u < v:=by
            rcases Nat.lt_or_ge u v with h | h
            · exact h
            · obtain rfl:u=v:=by omega
              have:=hu2.out;have:=hv2.out;omega
           obtain ⟨G3,hG3,hc3,hf3⟩:=S6.out.1.fam H0.out hg
           rw [HN.out] at hc3 hf3
           have S7:Hid (St w g off d (Sort.swp D1 u v) ((W6.setCell ⟨g,off+u,none⟩ (.int .u64 (G3 v))).setCell ⟨g,off+v,none⟩ (.int .u64 (G3 u))).drew):=S6.out.1.swap H0.out hg hG3 (by rw [HN.out];omega) (by rw [HN.out];omega) 1
           have hds:D1.size=n:=by rw [S6.out.1.1,HN.out]
           have P7:Hid (Sort.PermIn a b d (Sort.swp D1 u v)):=perm_trans HK.out.1 (swp_perm _ _ _ _ _ (by omega) (by omega) (by omega) (by omega) (by omega))
           have Q7:Hid (Part a b (u+1) (v - 1) p (Sort.swp D1 u v)):=by
            refine Part.swap ⟨AT.out,fun t h1 h2=>?_,fun t h1 h2=>?_⟩ (by omega) (by omega) huv2 (by omega) hu2.out hv2.out
            · exact S5.out.2 t (by omega) h2
            · exact S6.out.2 t h1 (by omega)
           obtain ⟨y3,hy3⟩:=cell?_setCell_some (w:=W6) (p:=⟨g,off+u,none⟩) (x:=.int .u64 (G3 v)) (q:=⟨g,off+v,none⟩) (hc3 v (by omega))
           clear hG3 hds S5 S6
           go_wp2_with fail
           go_region
           go_wp2_with fail
           generalize ((W6.setCell ⟨g,off+u,none⟩ (.int .u64 (G3 v))).setCell ⟨g,off+v,none⟩ (.int .u64 (G3 u))).drew=W7 at S7 ⊢
           clear hy3 y3 hc3 hf3 HK hi hj hu2 hv2
           go_loopw [10,11] (fun vi vj w1=>∃ (i j:Nat) (dk:Array Int),vi=.int .i64 i∧vj=.int .i64 j∧a < i∧i≤j+1∧j < b∧Hid (St w g off d dk w1∧Sort.PermIn a b d dk∧Part a b i j p dk)) (fun vi vj _=>(intOf vj).toNat+1 - (intOf vi).toNat)
           case atStart=>exact ⟨u+1,v - 1,_,by go_num,by go_num,by omega,by omega,by omega,S7.out,P7.out,Q7.out⟩
           case round =>
            clear S7 P7 Q7 AT hai hij hjb hiu huj hvj huv hle hle2 huv2
            obtain ⟨i,j,dk,rfl,rfl,hai,hij,hjb,hK⟩:=hrel
            have HK:Hid (Sort.PermIn a b d dk∧Part a b i j p dk):=hK.out.2
            have S:Hid (St w g off d dk wr):=hK.out.1
            have AT:Hid (dk[a]! =p):=HK.out.2.at'
            clear hK
            go_wp2_with fail
            go_loopw [10] (fun vi w1=>∃ (u:Nat),vi=.int .i64 u∧i≤u∧u≤j+1∧Hid (St w g off d dk w1∧∀ t,i≤t→t < u→dk[t]! < p)) (fun vi _=>j+1 - (intOf vi).toNat)
            case atStart=>exact ⟨i,by go_num,Nat.le_refl _,hij,S.out,fun t h1 h2=>by omega⟩
            case round =>
             clear S
             obtain ⟨u,rfl,hiu,huj,hU⟩:=hrel
             obtain ⟨G1,hG1,hcw,hfw⟩:=hU.out.1.fam H0.out hg
             rw [HN.out] at hcw hfw
             have HG1:Hid (∀ t,G1 t=dk[t]!):=hG1
             have hpa:Hid (G1 a=p):=by refine hid_mk ?_;rw [HG1.out];exact AT.out
             clear hG1
             by_cases hle:u≤j
             · go_wp2_with fail
               go_big_quiet (first | (go_at_call 150;refine Calls.quiet_of_same (u_less _ _ _)))
               go_wp2_with fail
               · have ht:Sort.ltInt (G1 u) (G1 a)=true:=by assumption
                 go_roundw
                 case rel=>exact ⟨u+1,by go_num,by omega,by omega,hU.out.1.drawn nq,fun t h1 h2=>by
                  by_cases e:t=u
                  · subst e;rw [← HG1.out];have:=ht;exact (by have h:=ltI this;have:=hpa.out;omega)
                  · exact hU.out.2 t h1 (by omega)⟩
                 case measure=>simp [intOf];omega
               · have ht:Sort.ltInt (G1 u) (G1 a)=false:=by assumption
                 have hu2:Hid (p≤dk[u]!):=by refine hid_mk ?_;rw [← HG1.out u];exact (by have h:=geI ht;have:=hpa.out;omega)
                 have S5:Hid (St w g off d dk (wr.drewN nq)∧∀ t,i≤t→t < u→dk[t]! < p):=⟨hU.out.1.drawn nq,hU.out.2⟩
                 have hW5:True:=trivial
                 generalize wr.drewN nq=W5 at S5 ⊢
                 clear hcw hfw HG1 hU ht hpa
                 go_loopw [11] (fun vj w2=>∃ (v:Nat),vj=.int .i64 v∧v≤j∧u≤v+1∧Hid (St w g off d dk w2∧∀ t,v < t→t≤j→p≤dk[t]!)) (fun vj _=>(intOf vj).toNat)
                 case atStart=>exact ⟨j,by go_num,by omega,by omega,S5.out.1,fun t h1 h2=>by omega⟩
                 case round =>
                  clear hW5
                  obtain ⟨v,rfl,hvj,huv,hV⟩:=hrel
                  obtain ⟨G2,hG2,hcw,hfw⟩:=hV.out.1.fam H0.out hg
                  rw [HN.out] at hcw hfw
                  have HG2:Hid (∀ t,G2 t=dk[t]!):=hG2
                  have hpa:Hid (G2 a=p):=by refine hid_mk ?_;rw [HG2.out];exact AT.out
                  clear hG2
                  by_cases hle2:u≤v
                  · go_wp2_with fail
                    go_big_quiet (first | (go_at_call 150;refine Calls.quiet_of_same (u_less _ _ _)))
                    go_wp2_with fail
                    · have ht:(!Sort.ltInt (G2 v) (G2 a))=true:=by assumption
                      go_roundw
                      case rel=>exact ⟨v - 1,by go_num,by omega,by omega,hV.out.1.drawn nq,fun t h1 h2=>by
                       by_cases e:t=v
                       · subst e;rw [← HG2.out];have:=ht;exact (by have h:=geI (not_yes this);have:=hpa.out;omega)
                       · exact hV.out.2 t (by omega) h2⟩
                      case measure=>simp [intOf];omega
                    · have ht:(!Sort.ltInt (G2 v) (G2 a))=false:=by assumption
                      have hv2:Hid (dk[v]! < p):=by refine hid_mk ?_;rw [← HG2.out v];exact (by have h:=ltI (not_no ht);have:=hpa.out;omega)
                      have S6:Hid (St w g off d dk (wr.drewN nq)∧∀ t,v < t→t≤j→p≤dk[t]!):=⟨hV.out.1.drawn nq,hV.out.2⟩
                      generalize wr.drewN nq=W6 at S6 ⊢
                      clear hcw hfw HG2 hV ht
                      clear hpa
                      have huv2:u < v:=by
                       rcases Nat.lt_or_ge u v with h | h
                       · exact h
                       · obtain rfl:u=v:=by omega
                         have:=hu2.out;have:=hv2.out;omega
                      obtain ⟨G3,hG3,hc3,hf3⟩:=S6.out.1.fam H0.out hg
                      rw [HN.out] at hc3 hf3
                      have S7:Hid (St w g off d (Sort.swp dk u v) ((W6.setCell ⟨g,off+u,none⟩ (.int .u64 (G3 v))).setCell ⟨g,off+v,none⟩ (.int .u64 (G3 u))).drew):=S6.out.1.swap H0.out hg hG3 (by rw [HN.out];omega) (by rw [HN.out];omega) 1
                      have hds:dk.size=n:=by rw [S6.out.1.1,HN.out]
                      have P7:Hid (Sort.PermIn a b d (Sort.swp dk u v)):=perm_trans HK.out.1 (swp_perm _ _ _ _ _ (by omega) (by omega) (by omega) (by omega) (by omega))
                      have Q7:Hid (Part a b (u+1) (v - 1) p (Sort.swp dk u v)):=by
                       refine Part.swap ⟨AT.out,fun t h1 h2=>?_,fun t h1 h2=>?_⟩ (by omega) (by omega) huv2 (by omega) hu2.out hv2.out
                       · by_cases e:t < i
                         · exact HK.out.2.lo t h1 e
                         · exact S5.out.2 t (by omega) h2
                       · by_cases e:j < t
                         · exact HK.out.2.hi t e h2
                         · exact S6.out.2 t h1 (by omega)
                      obtain ⟨y3,hy3⟩:=cell?_setCell_some (w:=W6) (p:=⟨g,off+u,none⟩) (x:=.int .u64 (G3 v)) (q:=⟨g,off+v,none⟩) (hc3 v (by omega))
                      clear hG3 hds S5 S6
                      go_wp2_with fail
                      go_region
                      go_wp2_with fail
                      go_roundw
                      case rel=>exact ⟨u+1,v - 1,_,by go_num,by go_num,by omega,by omega,by omega,S7.out,P7.out,Q7.out⟩
                      case measure=>simp [intOf];omega
                  · have hd2:decide ((u:Int)≤(v:Int))=false:=df (by omega)
                    go_wp2_with fail
                    go_big_quiet (first | (go_at_call 150;refine Calls.quiet_of_same (u_less _ _ _)))
                    have S6:Hid (St w g off d dk (wr.drewN nq)∧∀ t,v < t→t≤j→p≤dk[t]!):=⟨hV.out.1.drawn nq,hV.out.2⟩
                    generalize wr.drewN nq=W6 at S6 ⊢
                    clear hcw hfw HG2 hV
                    clear hpa
                    obtain rfl:u=v+1:=by omega
                    have Q7:Hid (Part a b (v+1) v p dk):=by
                     refine ⟨AT.out,fun t h1 h2=>?_,fun t h1 h2=>?_⟩
                     · by_cases e:t < i
                       · exact HK.out.2.lo t h1 e
                       · exact S5.out.2 t (by omega) h2
                     · by_cases e:j < t
                       · exact HK.out.2.hi t e h2
                       · exact S6.out.2 t h1 (by omega)
                    clear S5
                    obtain ⟨G3,hG3,hc3,hf3⟩:=S6.out.1.fam H0.out hg
                    rw [HN.out] at hc3 hf3
                    have hds:dk.size=n:=by rw [S6.out.1.1,HN.out]
                    have HR:Hid (∃ (m:Nat) (f:Bool) (d':Array Int),Ending.returned (.tuple #[.int .i64 (v:Int),.bool false])=.returned (.tuple #[.int .i64 m,.bool f])∧Sort.PermIn a b d d'∧Parted a b m d'∧St w g off d d' ((W6.setCell ⟨g,off+v,none⟩ (.int .u64 (G3 a))).setCell ⟨g,off+a,none⟩ (.int .u64 (G3 v))).drew) :=
                     ⟨v,false,Sort.swp dk v a,rfl,perm_trans HK.out.1 (swp_perm _ _ _ _ _ (by omega) (by omega) (by omega) (by omega) (by omega)),Q7.out.done (by omega) (by omega) rfl (by omega),S6.out.1.swap H0.out hg hG3 (by rw [HN.out];omega) (by rw [HN.out];omega) 1⟩
                    obtain ⟨y3,hy3⟩:=cell?_setCell_some (w:=W6) (p:=⟨g,off+v,none⟩) (x:=.int .u64 (G3 a)) (q:=⟨g,off+a,none⟩) (hc3 a (by omega))
                    clear hG3 hds S6 Q7
                    go_wp2_with fail
                    go_region
                    go_wp2_with fail
                    go_ret2
                    exact HR.out
             · have hd1:decide ((u:Int)≤(j:Int))=false:=df (by omega)
               go_wp2_with fail
               go_big_quiet (first | (go_at_call 150;refine Calls.quiet_of_same (u_less _ _ _)))
               go_wp2_with fail
               have S5:Hid (St w g off d dk (wr.drewN nq)∧∀ t,i≤t→t < u→dk[t]! < p):=⟨hU.out.1.drawn nq,hU.out.2⟩
               have hW5:True:=trivial
               generalize wr.drewN nq=W5 at S5 ⊢
               clear hcw hfw HG1 hU hpa
               go_loopw [11] (fun vj w2=>∃ (v:Nat),vj=.int .i64 v∧v≤j∧u≤v+1∧Hid (St w g off d dk w2∧∀ t,v < t→t≤j→p≤dk[t]!)) (fun vj _=>(intOf vj).toNat)
               case atStart=>exact ⟨j,by go_num,by omega,by omega,S5.out.1,fun t h1 h2=>by omega⟩
               case round =>
                clear hW5
                obtain ⟨v,rfl,hvj,huv,hV⟩:=hrel
                obtain ⟨G2,hG2,hcw,hfw⟩:=hV.out.1.fam H0.out hg
                rw [HN.out] at hcw hfw
                have HG2:Hid (∀ t,G2 t=dk[t]!):=hG2
                have hpa:Hid (G2 a=p):=by refine hid_mk ?_;rw [HG2.out];exact AT.out
                clear hG2
                by_cases hle2:u≤v
                · exfalso;omega
                · have hd2:decide ((u:Int)≤(v:Int))=false:=df (by omega)
                  go_wp2_with fail
                  go_big_quiet (first | (go_at_call 150;refine Calls.quiet_of_same (u_less _ _ _)))
                  have S6:Hid (St w g off d dk (wr.drewN nq)∧∀ t,v < t→t≤j→p≤dk[t]!):=⟨hV.out.1.drawn nq,hV.out.2⟩
                  generalize wr.drewN nq=W6 at S6 ⊢
                  clear hcw hfw HG2 hV
                  clear hpa
                  obtain rfl:u=v+1:=by omega
                  have Q7:Hid (Part a b (v+1) v p dk):=by
                   refine ⟨AT.out,fun t h1 h2=>?_,fun t h1 h2=>?_⟩
                   · by_cases e:t < i
                     · exact HK.out.2.lo t h1 e
                     · exact S5.out.2 t (by omega) h2
                   · by_cases e:j < t
                     · exact HK.out.2.hi t e h2
                     · exact S6.out.2 t h1 (by omega)
                  clear S5
                  obtain ⟨G3,hG3,hc3,hf3⟩:=S6.out.1.fam H0.out hg
                  rw [HN.out] at hc3 hf3
                  have hds:dk.size=n:=by rw [S6.out.1.1,HN.out]
                  have HR:Hid (∃ (m:Nat) (f:Bool) (d':Array Int),Ending.returned (.tuple #[.int .i64 (v:Int),.bool false])=.returned (.tuple #[.int .i64 m,.bool f])∧Sort.PermIn a b d d'∧Parted a b m d'∧St w g off d d' ((W6.setCell ⟨g,off+v,none⟩ (.int .u64 (G3 a))).setCell ⟨g,off+a,none⟩ (.int .u64 (G3 v))).drew) :=
                   ⟨v,false,Sort.swp dk v a,rfl,perm_trans HK.out.1 (swp_perm _ _ _ _ _ (by omega) (by omega) (by omega) (by omega) (by omega)),Q7.out.done (by omega) (by omega) rfl (by omega),S6.out.1.swap H0.out hg hG3 (by rw [HN.out];omega) (by rw [HN.out];omega) 1⟩
                  obtain ⟨y3,hy3⟩:=cell?_setCell_some (w:=W6) (p:=⟨g,off+v,none⟩) (x:=.int .u64 (G3 a)) (q:=⟨g,off+a,none⟩) (hc3 a (by omega))
                  clear hG3 hds S6 Q7
                  go_wp2_with fail
                  go_region
                  go_wp2_with fail
                  go_ret2
                  exact HR.out
       · have hd2:decide ((u:Int)≤(v:Int))=false:=df (by omega)
         go_wp2_with fail
         go_big_quiet (first | (go_at_call 150;refine Calls.quiet_of_same (u_less _ _ _)))
         have S6:Hid (St w g off d D1 (wr.drewN nq)∧∀ t,v < t→t≤j→p≤D1[t]!):=⟨hV.out.1.drawn nq,hV.out.2⟩
         generalize wr.drewN nq=W6 at S6 ⊢
         clear hcw hfw HG2 hV
         clear hpa
         obtain rfl:u=v+1:=by omega
         have Q7:Hid (Part a b (v+1) v p D1):=⟨AT.out,fun t h1 h2=>S5.out.2 t (by omega) h2,fun t h1 h2=>S6.out.2 t h1 (by omega)⟩
         clear S5
         obtain ⟨G3,hG3,hc3,hf3⟩:=S6.out.1.fam H0.out hg
         rw [HN.out] at hc3 hf3
         have hds:D1.size=n:=by rw [S6.out.1.1,HN.out]
         have HR:Hid (∃ (m:Nat) (f:Bool) (d':Array Int),Ending.returned (.tuple #[.int .i64 (v:Int),.bool true])=.returned (.tuple #[.int .i64 m,.bool f])∧Sort.PermIn a b d d'∧Parted a b m d'∧St w g off d d' ((W6.setCell ⟨g,off+v,none⟩ (.int .u64 (G3 a))).setCell ⟨g,off+a,none⟩ (.int .u64 (G3 v))).drew) :=
          ⟨v,true,Sort.swp D1 v a,rfl,perm_trans HK.out.1 (swp_perm _ _ _ _ _ (by omega) (by omega) (by omega) (by omega) (by omega)),Q7.out.done (by omega) (by omega) rfl (by omega),S6.out.1.swap H0.out hg hG3 (by rw [HN.out];omega) (by rw [HN.out];omega) 1⟩
         obtain ⟨y3,hy3⟩:=cell?_setCell_some (w:=W6) (p:=⟨g,off+v,none⟩) (x:=.int .u64 (G3 a)) (q:=⟨g,off+a,none⟩) (hc3 a (by omega))
         clear hG3 hds S6 Q7
         go_wp2_with fail
         go_region
         go_wp2_with fail
         go_ret2
         exact HR.out
  · have hd1:decide ((u:Int)≤(j:Int))=false:=df (by omega)
    go_wp2_with fail
    go_big_quiet (first | (go_at_call 150;refine Calls.quiet_of_same (u_less _ _ _)))
    go_wp2_with fail
    have S5:Hid (St w g off d D1 (wr.drewN nq)∧∀ t,i≤t→t < u→D1[t]! < p):=⟨hU.out.1.drawn nq,hU.out.2⟩
    have hW5:True:=trivial
    generalize wr.drewN nq=W5 at S5 ⊢
    clear hcw hfw HG1 hU hpa
    go_loopw [11] (fun vj w2=>∃ (v:Nat),vj=.int .i64 v∧v≤j∧u≤v+1∧Hid (St w g off d D1 w2∧∀ t,v < t→t≤j→p≤D1[t]!)) (fun vj _=>(intOf vj).toNat)
    case atStart=>exact ⟨j,by go_num,by omega,by omega,S5.out.1,fun t h1 h2=>by omega⟩
    case round =>
     clear hW5
     obtain ⟨v,rfl,hvj,huv,hV⟩:=hrel
     obtain ⟨G2,hG2,hcw,hfw⟩:=hV.out.1.fam H0.out hg
     rw [HN.out] at hcw hfw
     have HG2:Hid (∀ t,G2 t=D1[t]!):=hG2
     have hpa:Hid (G2 a=p):=by refine hid_mk ?_;rw [HG2.out];exact AT.out
     clear hG2
     by_cases hle2:u≤v
     · exfalso;omega
     · have hd2:decide ((u:Int)≤(v:Int))=false:=df (by omega)
       go_wp2_with fail
       go_big_quiet (first | (go_at_call 150;refine Calls.quiet_of_same (u_less _ _ _)))
       have S6:Hid (St w g off d D1 (wr.drewN nq)∧∀ t,v < t→t≤j→p≤D1[t]!):=⟨hV.out.1.drawn nq,hV.out.2⟩
       generalize wr.drewN nq=W6 at S6 ⊢
       clear hcw hfw HG2 hV
       clear hpa
       obtain rfl:u=v+1:=by omega
       have Q7:Hid (Part a b (v+1) v p D1):=⟨AT.out,fun t h1 h2=>S5.out.2 t (by omega) h2,fun t h1 h2=>S6.out.2 t h1 (by omega)⟩
       clear S5
       obtain ⟨G3,hG3,hc3,hf3⟩:=S6.out.1.fam H0.out hg
       rw [HN.out] at hc3 hf3
       have hds:D1.size=n:=by rw [S6.out.1.1,HN.out]
       have HR:Hid (∃ (m:Nat) (f:Bool) (d':Array Int),Ending.returned (.tuple #[.int .i64 (v:Int),.bool true])=.returned (.tuple #[.int .i64 m,.bool f])∧Sort.PermIn a b d d'∧Parted a b m d'∧St w g off d d' ((W6.setCell ⟨g,off+v,none⟩ (.int .u64 (G3 a))).setCell ⟨g,off+a,none⟩ (.int .u64 (G3 v))).drew) :=
        ⟨v,true,Sort.swp D1 v a,rfl,perm_trans HK.out.1 (swp_perm _ _ _ _ _ (by omega) (by omega) (by omega) (by omega) (by omega)),Q7.out.done (by omega) (by omega) rfl (by omega),S6.out.1.swap H0.out hg hG3 (by rw [HN.out];omega) (by rw [HN.out];omega) 1⟩
       obtain ⟨y3,hy3⟩:=cell?_setCell_some (w:=W6) (p:=⟨g,off+v,none⟩) (x:=.int .u64 (G3 a)) (q:=⟨g,off+a,none⟩) (hc3 a (by omega))
       clear hG3 hds S6 Q7
       go_wp2_with fail
       go_region
       go_wp2_with fail
       go_ret2
       exact HR.out
end Go.Proofs.YtdklpgphmoaniaaGreatDoor
