/-
  What the document's own Touches tells: whether a cell that may be and a box, not too far away, have a point in common; in whatever memory.
-/
import Derived.Test.YtdklpgphmoaniaaGreatDoorRefHex
import Derived.Test.YtdklpgphmoaniaaGreatDoorJn17
import Derived.Test.YtdklpgphmoaniaaGreatDoorCovHex
namespace Go.Proofs.YtdklpgphmoaniaaGreatDoor
open Go.RowKit
def FarT (x y:Int):Prop:=x < -2147483648∨2147483648 < x∨y < -2147483648∨2147483648 < y
set_option maxHeartbeats 1000000 in
theorem rfar_core (x y:Int) (b:Bool) (h:(x < -2147483648∧b=true)∨(decide (x < -2147483648)=false∧2147483648 < x∧b=true)∨(decide (x < -2147483648)=false∧decide (2147483648 < x)=false∧y < -2147483648∧b=true)∨(decide (x < -2147483648)=false∧decide (2147483648 < x)=false∧decide (y < -2147483648)=false∧2147483648 < y∧b=true)∨(decide (x < -2147483648)=false∧decide (2147483648 < x)=false∧decide (y < -2147483648)=false∧decide (2147483648 < y)=false∧b=false)) (w:World) :
 Calls Tryz.prog 51 #[.int .i64 x,.int .i64 y] w fun e w'=>e=.returned (.bool b)∧w'=w:=by
 rcases h with ⟨h1,rfl⟩ | ⟨h1,h2,rfl⟩ | ⟨h1,h2,h3,rfl⟩ | ⟨h1,h2,h3,h4,rfl⟩ | ⟨h1,h2,h3,h4,rfl⟩
 all_goals
  go_enter Tryz.func51,Tryz.ntmps51
  go_wp2
  go_ret
  exact ⟨rfl,rfl⟩
theorem rfar_yes {x y:Int} (h:FarT x y) (w:World):Calls Tryz.prog 51 #[.int .i64 x,.int .i64 y] w fun e w'=>e=.returned (.bool true)∧w'=w:=by
 refine rfar_core x y true ?_ w
 unfold FarT at h
 simp only [decide_eq_false_iff_not,and_true,and_false,or_false,Bool.true_eq_false]
 omega
theorem rfar_no {x y:Int} (h:¬ FarT x y) (w:World):Calls Tryz.prog 51 #[.int .i64 x,.int .i64 y] w fun e w'=>e=.returned (.bool false)∧w'=w:=by
 refine rfar_core x y false ?_ w
 unfold FarT at h
 simp only [decide_eq_false_iff_not,and_true,and_false,false_or,Bool.false_eq_true]
 omega
def sgT (n:Int):Int:=if n < 0 then -1 else if 0 < n then 1 else 0
theorem sgT_eq {p q:Int × Int} {x y:Int}:sgT (crs p q x y)=if decide ((q.1 - p.1)*(y - p.2) < (q.2 - p.2)*(x - p.1))=true then -1 else if decide ((q.2 - p.2)*(x - p.1) < (q.1 - p.1)*(y - p.2))=true then 1 else 0:=by
 unfold sgT crs
 simp only [decide_eq_true_eq]
 by_cases h1:(q.1 - p.1)*(y - p.2) < (q.2 - p.2)*(x - p.1)
 · rw [if_pos (by omega),if_pos h1]
 · rw [if_neg (by omega),if_neg h1]
   by_cases h2:(q.2 - p.2)*(x - p.1) < (q.1 - p.1)*(y - p.2)
   · rw [if_pos (by omega),if_pos h2]
   · rw [if_neg (by omega),if_neg h2]
theorem sgT_pos {n:Int} (h:0 < n):sgT n=1:=by unfold sgT;rw [if_neg (by omega),if_pos h]
theorem sgT_ways (n:Int):(sgT n= -1∧n < 0)∨(sgT n=0∧n=0)∨(sgT n=1∧0 < n):=by
 unfold sgT
 by_cases h1:n < 0
 · rw [if_pos h1];omega
 · rw [if_neg h1]
   by_cases h2:0 < n
   · rw [if_pos h2];omega
   · rw [if_neg h2];omega
def Row12 (g n:Nat) (G:Nat→Int) (w:World):Prop:=∀ o < n,w.cell? ⟨g,o,none⟩=some (.int .i64 (G o))
theorem Row12.keep {g n:Nat} {G:Nat→Int} {w w':World} (h:Row12 g n G w) (hb:Below w.heap.size w w'):Row12 g n G w':=fun o ho=>keepCell hb (h o ho)
def ptG (G:Nat→Int) (j:Nat):Int × Int:=(G (j*2),G (j*2+1))
def boxC (l1 l2 u1 u2:Int):Nat→Int
 | 0=>3*l1 | 1=>3*l2 | 2=>3*u1 | 3=>3*l2 | 4=>3*u1 | 5=>3*u2 | 6=>3*l1 | _=>3*u2
theorem boxC_box {l1 l2 u1 u2 B:Int} (h1: -B≤3*l1∧3*l1≤B) (h2: -B≤3*l2∧3*l2≤B) (h3: -B≤3*u1∧3*u1≤B) (h4: -B≤3*u2∧3*u2≤B) (o:Nat): -B≤boxC l1 l2 u1 u2 o∧boxC l1 l2 u1 u2 o≤B:=by
 unfold boxC
 split <;>assumption
theorem row_boxC (w:World) (e:TypeId) (l1 l2 u1 u2:Int):Row12 w.heap.size 8 (boxC l1 l2 u1 u2) (w.alloc (.cells #[.int .i64 (3*l1),.int .i64 (3*l2),.int .i64 (3*u1),.int .i64 (3*l2),.int .i64 (3*u1),.int .i64 (3*u2),.int .i64 (3*l1),.int .i64 (3*u2)] e)):=fun o ho=>by
 obtain rfl | rfl | rfl | rfl | rfl | rfl | rfl | rfl:o=0∨o=1∨o=2∨o=3∨o=4∨o=5∨o=6∨o=7:=by omega
 all_goals
  unfold boxC
  go_simp
theorem corner_ix {k j:Nat} (h:k < 6) (c:Nat) (hj:(k+c)%6=j):j < 6∧((k:Int)+c)%6=(j:Int)∧((k:Int)+c).tmod 6=(j:Int):=by
 have e:(((k+c)%6:Nat):Int)=((k:Int)+(c:Int))%6:=by push_cast;rfl
 refine ⟨by omega,by rw [← e,hj],?_⟩
 rw [Int.tmod_eq_emod_of_nonneg (by omega),← e,hj]
def TouS (n:Nat) (r a b:Int) (L U:Nat→Int) (w:World):Prop :=
 (w.cell? ⟨n,0,none⟩=some (.int .i64 r)∧w.cell? ⟨n,1,none⟩=some (.int .i64 a)∧w.cell? ⟨n,2,none⟩=some (.int .i64 b))∧Row12 (n+1) 2 L w∧Row12 (n+1+1) 2 U w
theorem TouS.keep {n:Nat} {r a b:Int} {L U:Nat→Int} {w w':World} (h:TouS n r a b L U w) (hb:Below w.heap.size w w'):TouS n r a b L U w' :=
 ⟨⟨keepCell hb h.1.1,keepCell hb h.1.2.1,keepCell hb h.1.2.2⟩,h.2.1.keep hb,h.2.2.keep hb⟩
def prT (x y:Int):Nat→Int
 | 0=>x
 | _=>y
theorem tou_made (w:World) (e1 e2 e3:TypeId) (r a b l1 l2 u1 u2:Int):TouS w.heap.size r a b (prT l1 l2) (prT u1 u2) (((w.alloc (.cells #[.int .i64 r,.int .i64 a,.int .i64 b] e1)).alloc (.cells #[.int .i64 l1,.int .i64 l2] e2)).alloc (.cells #[.int .i64 u1,.int .i64 u2] e3)):=by
 refine ⟨⟨by go_simp,by go_simp,by go_simp⟩,fun o ho=>?_,fun o ho=>?_⟩
 · obtain rfl | rfl:o=0∨o=1:=by omega
   · unfold prT;go_simp
   · unfold prT;go_simp
 · obtain rfl | rfl:o=0∨o=1:=by omega
   · unfold prT;go_simp
   · unfold prT;go_simp
def AxT (G L U:Nat→Int) (a:Nat):Prop:=(∃ i,i < 6∧3*L a≤G (i*2+a))∧∃ i,i < 6∧G (i*2+a)≤3*U a
theorem unparted_ax {G:Nat→Int} {l1 l2 u1 u2:Int}:Unparted (ptG G) (3*l1) (3*l2) (3*u1) (3*u2)↔(∀ a,a < 2→AxT G (prT l1 l2) (prT u1 u2) a) ∧
 ∀ i,i < 6→¬ ∀ c,c < 4→crs (ptG G i) (ptG G ((i+1)%6)) (boxC l1 l2 u1 u2 (c*2)) (boxC l1 l2 u1 u2 (c*2+1)) < 0:=by
 have hc:∀ i,(0≤crs (ptG G i) (ptG G (nx i)) (3*l1) (3*l2)∨0≤crs (ptG G i) (ptG G (nx i)) (3*u1) (3*l2)∨0≤crs (ptG G i) (ptG G (nx i)) (3*u1) (3*u2)∨0≤crs (ptG G i) (ptG G (nx i)) (3*l1) (3*u2)) ↔
  ¬ ∀ c,c < 4→crs (ptG G i) (ptG G ((i+1)%6)) (boxC l1 l2 u1 u2 (c*2)) (boxC l1 l2 u1 u2 (c*2+1)) < 0:=fun i=>by
  constructor
  · intro h k
    have k0:=k 0 (by omega)
    have k1:=k 1 (by omega)
    have k2:=k 2 (by omega)
    have k3:=k 3 (by omega)
    simp only [boxC,nx] at *
    omega
  · intro h
    by_cases c:(0≤crs (ptG G i) (ptG G (nx i)) (3*l1) (3*l2)∨0≤crs (ptG G i) (ptG G (nx i)) (3*u1) (3*l2)∨0≤crs (ptG G i) (ptG G (nx i)) (3*u1) (3*u2)∨0≤crs (ptG G i) (ptG G (nx i)) (3*l1) (3*u2))
    · exact c
    · refine absurd (fun c hc=>?_) h
      obtain rfl | rfl | rfl | rfl:c=0∨c=1∨c=2∨c=3:=by omega
      all_goals
       simp only [boxC,nx] at *
       omega
 constructor
 · rintro ⟨⟨h1,h2⟩,⟨h3,h4⟩,h5⟩
   refine ⟨fun a ha=>?_,fun i hi=>(hc i).1 (h5 i hi)⟩
   obtain rfl | rfl:a=0∨a=1:=by omega
   · exact ⟨h1,h2⟩
   · exact ⟨h3,h4⟩
 · rintro ⟨h1,h2⟩
   exact ⟨h1 0 (by omega),h1 1 (by omega),fun i hi=>(hc i).2 (h2 i hi)⟩
theorem keepFourB {w0 a b:World} {p0 p1 p2 p3:Addr} {v0 v1 v2 v3:Value} (hb:Below a.heap.size a b) (h:a.cell? p0=some v0∧a.cell? p1=some v1∧a.cell? p2=some v2∧a.cell? p3=some v3∧Below w0.heap.size w0 a) :
 b.cell? p0=some v0∧b.cell? p1=some v1∧b.cell? p2=some v2∧b.cell? p3=some v3∧Below w0.heap.size w0 b :=
 ⟨keepCell hb h.1,keepCell hb h.2.1,keepCell hb h.2.2.1,keepCell hb h.2.2.2.1,belowT h.2.2.2.2 hb⟩
theorem keepSixB {w0 a b:World} {p0 p1 p2 p3 p4 p5:Addr} {v0 v1 v2 v3 v4 v5:Value} (hb:Below a.heap.size a b) (h:a.cell? p0=some v0∧a.cell? p1=some v1∧a.cell? p2=some v2∧a.cell? p3=some v3∧a.cell? p4=some v4∧a.cell? p5=some v5∧Below w0.heap.size w0 a) :
 b.cell? p0=some v0∧b.cell? p1=some v1∧b.cell? p2=some v2∧b.cell? p3=some v3∧b.cell? p4=some v4∧b.cell? p5=some v5∧Below w0.heap.size w0 b :=
 ⟨keepCell hb h.1,keepCell hb h.2.1,keepCell hb h.2.2.1,keepCell hb h.2.2.2.1,keepCell hb h.2.2.2.2.1,keepCell hb h.2.2.2.2.2.1,belowT h.2.2.2.2.2.2 hb⟩
set_option maxHeartbeats 16000000 in
set_option maxRecDepth 20000 in
theorem rtouch_main (r a b l1 l2 u1 u2:Int) (G:Nat→Int) (t:Bool) (ht:t=true↔Unparted (ptG G) (3*l1) (3*l2) (3*u1) (3*u2))
 (hpos:∀ i,i < 6→0 < crs (ptG G i) (ptG G ((i+1)%6)) (G ((i+3)%6*2)) (G ((i+3)%6*2+1))) (bG:∀ o,o < 12→-1152921504606846976≤G o∧G o≤1152921504606846976)
 (f1:¬ FarT l1 l2) (f2:¬ FarT u1 u2) (h1:l1≤u1) (h2:l2≤u2)
 (OKC:∀ w,Calls Tryz.prog 34 #[.agg #[.int .i64 r,.int .i64 a,.int .i64 b]] w fun e w'=>e=.returned (.bool true)∧Below w.heap.size w w')
 (HX:∀ w,Calls Tryz.prog 52 #[.agg #[.int .i64 a,.int .i64 b],.int .i64 r] w fun e w'=>(∃ g cap,e=.returned (.slice (some ⟨g,0,none⟩) 6 cap)∧∀ o < 12,w'.cell? ⟨g,o,none⟩=some (.int .i64 (G o)))∧Below w.heap.size w w') (w:World) :
 Calls Tryz.prog 23 #[.agg #[.int .i64 r,.int .i64 a,.int .i64 b],.agg #[.int .i64 l1,.int .i64 l2],.agg #[.int .i64 u1,.int .i64 u2]] w fun e w'=>e=.returned (.bool t)∧Below w.heap.size w w':=by
 replace OKC:Hid _:=OKC
 replace HX:Hid _:=HX
 have HT:=hidd (ht.trans unparted_ax)
 have HP:=hidd hpos
 have BG:=hidd bG
 have FA1:=hidd fun w=>rfar_no f1 w
 have FA2:=hidd fun w=>rfar_no f2 w
 have bb:(-2147483648≤l1∧l1≤2147483648)∧(-2147483648≤l2∧l2≤2147483648)∧(-2147483648≤u1∧u1≤2147483648)∧(-2147483648≤u2∧u2≤2147483648):=by unfold FarT at f1 f2;omega
 obtain ⟨⟨l11,l12⟩,⟨l21,l22⟩,⟨u11,u12⟩,⟨u21,u22⟩⟩:=bb
 have k1:decide (u1 < l1)=false:=by simp only [decide_eq_false_iff_not];omega
 have k2:decide (u2 < l2)=false:=by simp only [decide_eq_false_iff_not];omega
 have S0:=hidd (tou_made w 25 38 38 r a b l1 l2 u1 u2)
 have B0:=hidd (belowT (belowT (allocB w (.cells #[.int .i64 r,.int .i64 a,.int .i64 b] 25)) (allocB _ (.cells #[.int .i64 l1,.int .i64 l2] 38))) (allocB _ (.cells #[.int .i64 u1,.int .i64 u2] 38)))
 clear ht hpos bG f1 f2
 go_enter Tryz.func23,Tryz.ntmps23
 go_wp2_with fail
 generalize ((w.alloc (.cells #[.int .i64 r,.int .i64 a,.int .i64 b] 25)).alloc (.cells #[.int .i64 l1,.int .i64 l2] 38)).alloc (.cells #[.int .i64 u1,.int .i64 u2] 38)=w0 at *
 refine (OKC.out _).mono ?_
 rintro e w1 ⟨rfl,b1⟩
 have S1:=hidd (S0.out.keep b1)
 have B1:=hidd (belowT B0.out b1)
 obtain ⟨⟨x0,x1,x2⟩,hL,hU⟩:=S1.out
 have y0:=hL 0 (by omega)
 have y1:=hL 1 (by omega)
 have z0:=hU 0 (by omega)
 have z1:=hU 1 (by omega)
 simp only [prT] at y0 y1 z0 z1
 clear S0 B0 OKC b1 hL hU
 go_wp2_with fail
 refine (FA1.out _).mono ?_
 rintro e w' ⟨rfl,rfl⟩
 go_wp2_with fail
 refine (FA2.out _).mono ?_
 rintro e w'' ⟨rfl,rfl⟩
 go_wp2_with fail
 refine (HX.out _).mono ?_
 rintro e w3 ⟨⟨g,cap,rfl,hG⟩,b3⟩
 have S3:=hidd (S1.out.keep b3)
 have B3:=hidd (belowT B1.out b3)
 have G3:Hid (Row12 g 12 G w3):=hidd hG
 replace y0:=keepCell b3 y0
 replace y1:=keepCell b3 y1
 replace z0:=keepCell b3 z0
 replace z1:=keepCell b3 z1
 clear S1 B1 HX FA1 FA2 x0 x1 x2 b3 hG k1 k2
 go_wp2_with fail
 have hal:=allocB w3 (.cells #[.int .i64 (3*l1),.int .i64 (3*l2),.int .i64 (3*u1),.int .i64 (3*l2),.int .i64 (3*u1),.int .i64 (3*u2),.int .i64 (3*l1),.int .i64 (3*u2)] 95)
 have C4:=hidd (row_boxC w3 95 l1 l2 u1 u2)
 have S4:=hidd (S3.out.keep hal)
 have B4:=hidd (belowT B3.out hal)
 have G4:=hidd (G3.out.keep hal)
 clear S3 B3 G3 hal y0 y1 z0 z1
 generalize w3.alloc (.cells #[.int .i64 (3*l1),.int .i64 (3*l2),.int .i64 (3*u1),.int .i64 (3*l2),.int .i64 (3*u1),.int .i64 (3*u2),.int .i64 (3*l1),.int .i64 (3*u2)] 95)=w4 at *
 obtain ⟨L,eL⟩:∃ L,prT l1 l2=L:=⟨_,rfl⟩
 obtain ⟨U,eU⟩:∃ U,prT u1 u2=U:=⟨_,rfl⟩
 have bL:Hid (∀ o,o < 2→-2147483648≤L o∧L o≤2147483648):=hidd fun o ho=>by
  rw [← eL]
  obtain rfl | rfl:o=0∨o=1:=by omega
  · exact ⟨l11,l12⟩
  · exact ⟨l21,l22⟩
 have bU:Hid (∀ o,o < 2→-2147483648≤U o∧U o≤2147483648):=hidd fun o ho=>by
  rw [← eU]
  obtain rfl | rfl:o=0∨o=1:=by omega
  · exact ⟨u11,u12⟩
  · exact ⟨u21,u22⟩
 have bC:Hid (∀ o,-9000000000≤boxC l1 l2 u1 u2 o∧boxC l1 l2 u1 u2 o≤9000000000):=hidd (boxC_box (by omega) (by omega) (by omega) (by omega))
 rw [eL,eU] at HT S4
 obtain ⟨C,eC⟩:∃ C,boxC l1 l2 u1 u2=C:=⟨_,rfl⟩
 rw [eC] at HT C4 bC
 clear eL eU eC
 go_wp2_with fail
 go_loopw [9] (fun v9 wr=>∃ k:Nat,k≤2∧v9=.int .i64 (k:Int)∧Hid (∀ a,a < k→AxT G L U a)∧Hid (Below w4.heap.size w4 wr)) (fun v9 _=>2 - (intOf v9).toNat)
 case atStart=>exact ⟨0,by omega,rfl,hidd fun a ha=>absurd ha (Nat.not_lt_zero _),hidd (Below.refl _ _)⟩
 case round =>
  obtain ⟨k,hk,rfl,hA,hB⟩:=hrel
  by_cases hk2:k < 2
  · have hk2':(k:Int) < 2:=by omega
    have q0:=keepCell hB.out (G4.out k (by omega))
    have G5:=hidd (G4.out.keep hB.out)
    have S5:=hidd (S4.out.keep hB.out)
    have hGk:=BG.out k (by omega)
    have E0:Hid (∃ j,j < 6∧G (j*2+k)=G k):=hidd ⟨0,by omega,by rw [Nat.zero_mul,Nat.zero_add]⟩
    generalize eG:G k=n0 at q0 hGk E0
    clear eG
    obtain ⟨g1,g2⟩:=hGk
    go_wp2_with fail
    go_quiet (fail)
    go_wp2_with fail
    clear q0
    go_loopw [10,11,12] (fun v10 v11 v12 wx=>∃ (i:Nat) (le mo:Int),i≤6∧v12=.int .i64 (i:Int)∧v10=.int .i64 le∧v11=.int .i64 mo∧Hid (∀ j,j < i→le≤G (j*2+k)∧G (j*2+k)≤mo)∧Hid ((∃ j,j < 6∧G (j*2+k)=le)∧∃ j,j < 6∧G (j*2+k)=mo)∧Hid (Below w4.heap.size w4 wx)) (fun _ _ v12 _=>6 - (intOf v12).toNat)
    case atStart=>exact ⟨0,n0,n0,by omega,rfl,rfl,rfl,hidd fun j hj=>absurd hj (Nat.not_lt_zero _),hidd ⟨E0.out,E0.out⟩,hidd (belowN hB.out _)⟩
    case round =>
     obtain ⟨i,le,mo,hi,rfl,rfl,rfl,hI,hE,hX⟩:=hrel
     by_cases hi6:i < 6
     · have hi6':(i:Int) < 6:=by omega
       have x0:=keepCell hX.out (G4.out (i*2+k) (by omega))
       have hI2:Hid (∀ j,j < i+1→min le (G (i*2+k))≤G (j*2+k)∧G (j*2+k)≤max mo (G (i*2+k))):=hidd fun j hj=>by
        by_cases c:j=i
        · rw [c];omega
        · have:=hI.out j (by omega);omega
       have hE2:Hid ((∃ j,j < 6∧G (j*2+k)=min le (G (i*2+k)))∧∃ j,j < 6∧G (j*2+k)=max mo (G (i*2+k))):=hidd (by
        obtain ⟨⟨j1,h1,e1⟩,j2,h2,e2⟩:=hE.out
        constructor
        · by_cases c:le≤G (i*2+k)
          · exact ⟨j1,h1,by omega⟩
          · exact ⟨i,hi6,by omega⟩
        · by_cases c:G (i*2+k)≤mo
          · exact ⟨j2,h2,by omega⟩
          · exact ⟨i,hi6,by omega⟩)
       generalize G (i*2+k)=y at x0 hI2 hE2
       clear hI hE
       go_wp2_with fail
       go_quiet (fail)
       go_wp2_with fail
       go_roundw
       case rel=>exact ⟨i+1,_,_,by omega,by go_num,rfl,rfl,hI2,hE2,hidd (belowN hX.out _)⟩
       case measure=>simp [intOf];omega
     · obtain rfl:i=6:=by omega
       have h66:decide (((6:Nat):Int) < 6)=false:=by decide
       have y0:=keepCell hX.out (S4.out.2.1 k hk2)
       have y1:=keepCell hX.out (S4.out.2.2 k hk2)
       have bl:=bL.out k hk2
       have bu:=bU.out k hk2
       have AX:Hid (AxT G L U k↔3*L k≤mo∧le≤3*U k):=hidd (by
        obtain ⟨⟨j1,h1,e1⟩,j2,h2,e2⟩:=hE.out
        constructor
        · rintro ⟨⟨i,hi,h3⟩,i',hi',h4⟩
          have a1:=hI.out i hi
          have a2:=hI.out i' hi'
          omega
        · rintro ⟨h3,h4⟩
          exact ⟨⟨j2,h2,by omega⟩,j1,h1,by omega⟩)
       have NOT:Hid (¬ AxT G L U k→t=false):=hidd fun h=>by
        cases ee:t with
        | false=>rfl
        | true=>exact absurd ((HT.out.1 ee).1 k hk2) h
       have NXT:Hid (AxT G L U k→∀ a,a < k+1→AxT G L U a):=hidd fun h a ha=>by
        by_cases c:a=k
        · rw [c];exact h
        · exact hA.out a (by omega)
       clear hI hE hi6 hA
       generalize L k=lk at y0 bl AX
       generalize U k=uk at y1 bu AX
       obtain ⟨bl1,bl2⟩:=bl
       obtain ⟨bu1,bu2⟩:=bu
       by_cases c1:mo < 3*lk
       · have et:t=false:=NOT.out fun h=>by have:=AX.out.1 h;omega
         subst et
         clear AX NOT NXT HT
         go_wp2_with fail
         go_ret
         exact ⟨rfl,belowT B4.out hX.out⟩
       · have d1:decide (mo < 3*lk)=false:=by simp only [decide_eq_false_iff_not];exact c1
         by_cases c2:3*uk < le
         · have et:t=false:=NOT.out fun h=>by have:=AX.out.1 h;omega
           subst et
           clear AX NOT NXT HT c1
           go_wp2_with fail
           go_ret
           exact ⟨rfl,belowT B4.out hX.out⟩
         · have d2:decide (3*uk < le)=false:=by simp only [decide_eq_false_iff_not];exact c2
           have hA2:=hidd (NXT.out (AX.out.2 (by omega)))
           clear AX NOT NXT c1 c2
           go_wp2_with fail
           go_roundw
           case rel=>exact ⟨k+1,by omega,by go_num,hA2,hX⟩
           case measure=>simp [intOf];omega
  · have h22:decide ((k:Int) < 2)=false:=by simp only [decide_eq_false_iff_not];omega
    have HT2:Hid (t=true↔∀ i,i < 6→¬ ∀ c,c < 4→crs (ptG G i) (ptG G ((i+1)%6)) (C (c*2)) (C (c*2+1)) < 0):=hidd (HT.out.trans ⟨fun h=>h.2,fun h=>⟨fun a ha=>hA.out a (by omega),h⟩⟩)
    clear HT hA S4 hk2
    go_wp2_with fail
    go_loopw [13] (fun v13 wx=>∃ i:Nat,i≤6∧v13=.int .i64 (i:Int)∧Hid (∀ e,e < i→¬ ∀ c,c < 4→crs (ptG G e) (ptG G ((e+1)%6)) (C (c*2)) (C (c*2+1)) < 0)∧Hid (Below w4.heap.size w4 wx)) (fun v13 _=>6 - (intOf v13).toNat)
    case atStart=>exact ⟨0,by omega,rfl,hidd fun e he=>absurd he (Nat.not_lt_zero _),hB⟩
    case round =>
     clear hB
     obtain ⟨i,hi,rfl,hI,hB⟩:=hrel
     by_cases hi6:i < 6
     · have hi6':(i:Int) < 6:=by omega
       obtain ⟨j,ej⟩:∃ j,(i+1)%6=j:=⟨_,rfl⟩
       obtain ⟨m,em⟩:∃ m,(i+3)%6=m:=⟨_,rfl⟩
       obtain ⟨hj,ej1,ej2⟩:=corner_ix hi6 1 ej
       obtain ⟨hm,em1,em2⟩:=corner_ix hi6 3 em
       replace ej1:((i:Int)+1)%6=(j:Int):=ej1
       replace ej2:((i:Int)+1).tmod 6=(j:Int):=ej2
       replace em1:((i:Int)+3)%6=(m:Int):=em1
       replace em2:((i:Int)+3).tmod 6=(m:Int):=em2
       have hj':(j:Int) < 6:=by omega
       have hm':(m:Int) < 6:=by omega
       have x0:=keepCell hB.out (G4.out (i*2) (by omega))
       have x1:=keepCell hB.out (G4.out (i*2+1) (by omega))
       have y0:=keepCell hB.out (G4.out (j*2) (by omega))
       have y1:=keepCell hB.out (G4.out (j*2+1) (by omega))
       have z0:=keepCell hB.out (G4.out (m*2) (by omega))
       have z1:=keepCell hB.out (G4.out (m*2+1) (by omega))
       have C5:=hidd (C4.out.keep hB.out)
       have hg:=World.block_lt_of_cell? _ _ x0
       have pos:=HP.out i hi6
       rw [ej,em] at pos
       have gb:=fun o ho=>BG.out o ho
       have CR1:=hidd fun w=>cross_any (G (i*2)) (G (i*2+1)) (G (j*2)) (G (j*2+1)) (G (m*2)) (G (m*2+1)) 1 ((sgT_pos pos).symm.trans sgT_eq) (gb _ (by omega)).1 (gb _ (by omega)).2 (gb _ (by omega)).1 (gb _ (by omega)).2 (gb _ (by omega)).1 (gb _ (by omega)).2 (gb _ (by omega)).1 (gb _ (by omega)).2 (gb _ (by omega)).1 (gb _ (by omega)).2 (gb _ (by omega)).1 (gb _ (by omega)).2 w
       have CR2:=hidd fun c w=>cross_any (G (i*2)) (G (i*2+1)) (G (j*2)) (G (j*2+1)) (C (c*2)) (C (c*2+1)) _ (sgT_eq (p:=(G (i*2),G (i*2+1))) (q:=(G (j*2),G (j*2+1)))) (gb _ (by omega)).1 (gb _ (by omega)).2 (gb _ (by omega)).1 (gb _ (by omega)).2 (gb _ (by omega)).1 (gb _ (by omega)).2 (gb _ (by omega)).1 (gb _ (by omega)).2 (by have:=bC.out (c*2);omega) (by have:=bC.out (c*2);omega) (by have:=bC.out (c*2+1);omega) (by have:=bC.out (c*2+1);omega) w
       have YES:Hid ((∀ c,c < 4→crs (G (i*2),G (i*2+1)) (G (j*2),G (j*2+1)) (C (c*2)) (C (c*2+1)) < 0)→t=false):=hidd fun h=>by
        cases ee:t with
        | false=>rfl
        | true=>exact absurd (by rw [ej];exact h) (HT2.out.1 ee i hi6)
       have NO:Hid ((¬ ∀ c,c < 4→crs (G (i*2),G (i*2+1)) (G (j*2),G (j*2+1)) (C (c*2)) (C (c*2+1)) < 0)→∀ e,e < i+1→¬ ∀ c,c < 4→crs (ptG G e) (ptG G ((e+1)%6)) (C (c*2)) (C (c*2+1)) < 0):=hidd fun h e he=>by
        by_cases c:e=i
        · rw [c,ej];exact h
        · exact hI.out e (by omega)
       clear pos gb hI ej em
       generalize G (i*2)=p0 at *
       generalize G (i*2+1)=p1 at *
       generalize G (j*2)=q0 at *
       generalize G (j*2+1)=q1 at *
       generalize G (m*2)=r0 at *
       generalize G (m*2+1)=r1 at *
       go_wp2_with fail
       go_cut [14,15] from 133 to 189 (fun v14 v15 wx=>∃ P Q:Nat,v14=.pointer (some ⟨P,0,none⟩)∧v15=.pointer (some ⟨Q,0,none⟩)∧wx.cell? ⟨P,0,none⟩=some (.int .i64 p0)∧wx.cell? ⟨P,1,none⟩=some (.int .i64 p1)∧wx.cell? ⟨Q,0,none⟩=some (.int .i64 q0)∧wx.cell? ⟨Q,1,none⟩=some (.int .i64 q1)∧Below wr.heap.size wr wx)
       case first =>
        go_big_region
        all_goals
         go_wp2
         go_meet
         first
          | exact ⟨wr.heap.size,wr.heap.size+1,rfl,rfl,by go_simp,by go_simp,by go_simp,by go_simp,by go_grown⟩
          | exact ⟨wr.heap.size+1,wr.heap.size,rfl,rfl,by go_simp,by go_simp,by go_simp,by go_simp,by go_grown⟩
       case rest =>
        clear x0 x1 y0 y1 hg
        obtain ⟨P,Q,rfl,rfl,m0,m1,n0,n1,hX⟩:=hcut
        replace z0:=keepCell hX z0
        replace z1:=keepCell hX z1
        have hS0:wc.drew.cell? ⟨P,0,none⟩=some (.int .i64 p0)∧wc.drew.cell? ⟨P,1,none⟩=some (.int .i64 p1)∧wc.drew.cell? ⟨Q,0,none⟩=some (.int .i64 q0)∧wc.drew.cell? ⟨Q,1,none⟩=some (.int .i64 q1)∧wc.drew.cell? ⟨g,m*2,none⟩=some (.int .i64 r0)∧wc.drew.cell? ⟨g,m*2+1,none⟩=some (.int .i64 r1)∧Below wr.heap.size wr wc.drew:=⟨m0,m1,n0,n1,z0,z1,hX.drew⟩
        have hw3:IntKind.i64.wrap ((i:Int)+3)=(i:Int)+3:=by
         rw [IntKind.wrap_i64];omega
        have hm0:(0:Int)≤(m:Int):=by omega
        go_wp2_with fail
        go_region_held3 (fun w'=>w'.cell? ⟨P,0,none⟩=some (.int .i64 p0)∧w'.cell? ⟨P,1,none⟩=some (.int .i64 p1)∧w'.cell? ⟨Q,0,none⟩=some (.int .i64 q0)∧w'.cell? ⟨Q,1,none⟩=some (.int .i64 q1)∧w'.cell? ⟨g,m*2,none⟩=some (.int .i64 r0)∧w'.cell? ⟨g,m*2+1,none⟩=some (.int .i64 r1)∧Below wr.heap.size wr w') (first | exact hS0 | exact keepSixB hb (by assumption)) (first | (go_at_call 53;refine (CR1.out _).mono ?_;rintro e w' ⟨rfl,hb⟩))
        all_goals
         rename_i hS
         obtain ⟨m0',m1',n0',n1',-,-,hX2⟩:=hS
         have C6:=hidd (C5.out.keep hX2)
         have HB2:=hidd (belowT hB.out hX2)
         clear m0 m1 n0 n1 hS0 CR1 z0 z1 hX hX2 hb hw3 em1 em2 ej1 ej2 C5
         obtain ⟨wd,ewd⟩:∃ z,z=w':=⟨_,rfl⟩
         rw [← ewd] at m0' m1' n0' n1' C6 HB2 ⊢
         clear ewd
         go_wp2_with fail
         go_loopw [17,18] (fun v17 v18 wx=>∃ (c:Nat) (ap:Bool),c≤4∧v18=.int .i64 (c:Int)∧v17=.bool ap∧Hid (ap=true↔∀ d,d < c→crs (p0,p1) (q0,q1) (C (d*2)) (C (d*2+1)) < 0)∧Hid (Below wd.heap.size wd wx)) (fun _ v18 _=>4 - (intOf v18).toNat)
         case atStart=>exact ⟨0,true,by omega,rfl,rfl,hidd ⟨fun _ d hd=>absurd hd (Nat.not_lt_zero _),fun _=>rfl⟩,hidd (Below.refl _ _)⟩
         case round =>
          obtain ⟨c,ap,hc,rfl,rfl,hAP,hY⟩:=hrel
          by_cases hc4:c < 4
          · have hc4':(c:Int) < 4:=by omega
            have hc0:(0:Int)≤(c:Int):=by omega
            have c0:=keepCell hY.out (C6.out (c*2) (by omega))
            have c1:=keepCell hY.out (C6.out (c*2+1) (by omega))
            replace m0':=keepCell hY.out m0'
            replace m1':=keepCell hY.out m1'
            replace n0':=keepCell hY.out n0'
            replace n1':=keepCell hY.out n1'
            have CRc:=hidd (CR2.out c)
            have NXA:Hid (∀ v:Bool,(v=true↔ap=true∧crs (p0,p1) (q0,q1) (C (c*2)) (C (c*2+1)) < 0)→(v=true↔∀ d,d < c+1→crs (p0,p1) (q0,q1) (C (d*2)) (C (d*2+1)) < 0)):=hidd fun v hv=>hv.trans ⟨fun h d hd=>by
             by_cases e:d=c
             · rw [e];exact h.2
             · exact hAP.out.1 h.1 d (by omega),fun h=>⟨hAP.out.2 fun d hd=>h d (by omega),h c (by omega)⟩⟩
            have hw:=sgT_ways (crs (p0,p1) (q0,q1) (C (c*2)) (C (c*2+1)))
            generalize C (c*2)=e0 at *
            generalize C (c*2+1)=e1 at *
            generalize crs (p0,p1) (q0,q1) e0 e1=z at *
            generalize sgT z=s at *
            have hS0:wr.drew.cell? ⟨P,0,none⟩=some (.int .i64 p0)∧wr.drew.cell? ⟨P,1,none⟩=some (.int .i64 p1)∧wr.drew.cell? ⟨Q,0,none⟩=some (.int .i64 q0)∧wr.drew.cell? ⟨Q,1,none⟩=some (.int .i64 q1)∧wr.drew.cell? ⟨w3.heap.size,c*2,none⟩=some (.int .i64 e0)∧wr.drew.cell? ⟨w3.heap.size,c*2+1,none⟩=some (.int .i64 e1)∧Below wd.heap.size wd wr.drew:=⟨m0',m1',n0',n1',c0,c1,hY.out.drew⟩
            clear hAP m0' m1' n0' n1' c0 c1 YES NO
            rcases hw with ⟨rfl,hz⟩ | ⟨rfl,hz⟩ | ⟨rfl,hz⟩
            · have hN1:=hidd (NXA.out ap (by simp [hz]))
              clear NXA
              cases ap
              all_goals
               go_wp2_with fail
               go_region_held3 (fun w'=>w'.cell? ⟨P,0,none⟩=some (.int .i64 p0)∧w'.cell? ⟨P,1,none⟩=some (.int .i64 p1)∧w'.cell? ⟨Q,0,none⟩=some (.int .i64 q0)∧w'.cell? ⟨Q,1,none⟩=some (.int .i64 q1)∧w'.cell? ⟨w3.heap.size,c*2,none⟩=some (.int .i64 e0)∧w'.cell? ⟨w3.heap.size,c*2+1,none⟩=some (.int .i64 e1)∧Below wd.heap.size wd w') (first | exact hS0 | exact keepSixB hb (by assumption)) (first | (go_at_call 53;refine (CRc.out _).mono ?_;rintro e w' ⟨rfl,hb⟩))
               all_goals
                rename_i hS2
                have hY2:=hidd hS2.2.2.2.2.2.2
                clear hS2 hS0 hb CRc
                go_wp2_with fail
                go_roundw
                case rel =>
                 first
                  | exact ⟨c+1,_,by omega,by go_num,rfl,hN1,hY2⟩
                  | exact ⟨c+1,_,by omega,by go_num,rfl,hidd ⟨fun _=>hN1.out.1 trivial,fun _=>rfl⟩,hY2⟩
                case measure=>simp [intOf];omega
            · have hN1:=hidd (NXA.out false (by simp;omega))
              clear NXA
              cases ap
              all_goals
               go_wp2_with fail
               go_region_held3 (fun w'=>w'.cell? ⟨P,0,none⟩=some (.int .i64 p0)∧w'.cell? ⟨P,1,none⟩=some (.int .i64 p1)∧w'.cell? ⟨Q,0,none⟩=some (.int .i64 q0)∧w'.cell? ⟨Q,1,none⟩=some (.int .i64 q1)∧w'.cell? ⟨w3.heap.size,c*2,none⟩=some (.int .i64 e0)∧w'.cell? ⟨w3.heap.size,c*2+1,none⟩=some (.int .i64 e1)∧Below wd.heap.size wd w') (first | exact hS0 | exact keepSixB hb (by assumption)) (first | (go_at_call 53;refine (CRc.out _).mono ?_;rintro e w' ⟨rfl,hb⟩))
               all_goals
                rename_i hS2
                have hY2:=hidd hS2.2.2.2.2.2.2
                clear hS2 hS0 hb CRc
                go_wp2_with fail
                go_roundw
                case rel =>
                 first
                  | exact ⟨c+1,_,by omega,by go_num,rfl,hN1,hY2⟩
                  | exact ⟨c+1,_,by omega,by go_num,rfl,hidd ⟨fun _=>hN1.out.1 trivial,fun _=>rfl⟩,hY2⟩
                case measure=>simp [intOf];omega
            · have hN1:=hidd (NXA.out false (by simp;omega))
              clear NXA
              cases ap
              all_goals
               go_wp2_with fail
               go_region_held3 (fun w'=>w'.cell? ⟨P,0,none⟩=some (.int .i64 p0)∧w'.cell? ⟨P,1,none⟩=some (.int .i64 p1)∧w'.cell? ⟨Q,0,none⟩=some (.int .i64 q0)∧w'.cell? ⟨Q,1,none⟩=some (.int .i64 q1)∧w'.cell? ⟨w3.heap.size,c*2,none⟩=some (.int .i64 e0)∧w'.cell? ⟨w3.heap.size,c*2+1,none⟩=some (.int .i64 e1)∧Below wd.heap.size wd w') (first | exact hS0 | exact keepSixB hb (by assumption)) (first | (go_at_call 53;refine (CRc.out _).mono ?_;rintro e w' ⟨rfl,hb⟩))
               all_goals
                rename_i hS2
                have hY2:=hidd hS2.2.2.2.2.2.2
                clear hS2 hS0 hb CRc
                go_wp2_with fail
                go_roundw
                case rel =>
                 first
                  | exact ⟨c+1,_,by omega,by go_num,rfl,hN1,hY2⟩
                  | exact ⟨c+1,_,by omega,by go_num,rfl,hidd ⟨fun _=>hN1.out.1 trivial,fun _=>rfl⟩,hY2⟩
                case measure=>simp [intOf];omega
          · obtain rfl:c=4:=by omega
            have h44:decide (((4:Nat):Int) < 4)=false:=by decide
            have HB3:=hidd (belowT HB2.out hY.out)
            cases ap with
            | true =>
             have et:t=false:=YES.out (hAP.out.1 rfl)
             subst et
             clear YES NO hAP hc4
             go_wp2_with fail
             go_ret
             exact ⟨rfl,belowT B4.out HB3.out⟩
            | false =>
             have hI2:=hidd (NO.out fun h=>by have:=hAP.out.2 h;cases this)
             clear YES NO hAP hc4
             go_wp2_with fail
             go_roundw
             case rel=>exact ⟨i+1,by omega,by go_num,hI2,HB3⟩
             case measure=>simp [intOf];omega
     · obtain rfl:i=6:=by omega
       have h66:decide (((6:Nat):Int) < 6)=false:=by decide
       have et:t=true:=HT2.out.2 hI.out
       subst et
       clear HT2 hI hi6
       go_wp2_with fail
       go_ret
       exact ⟨rfl,belowT B4.out hB.out⟩
theorem hv_opp {K:Nat} (hK:K≤12) (a b:Int):∀ i,i < 6→0 < crs (hv K a b i) (hv K a b ((i+1)%6)) (hv K a b ((i+3)%6)).1 (hv K a b ((i+3)%6)).2:=fun i hi=>by
 have hd:=(dvK_box hK).1
 rw [← lin_one]
 have h:=fun p q=>re_corner K a b p q
 have f:=fun p q=>lin_side K a b (coX K a b p q) (coY K a b p q) 1
 obtain rfl | rfl | rfl | rfl | rfl | rfl:i=0∨i=1∨i=2∨i=3∨i=4∨i=5:=by omega
 · have k:=(f (-1) (-1)).1
   rw [(h (-1) (-1)).1,(h (-1) (-1)).2] at k
   show 0 < lin (hv K a b 0) (hv K a b 1) _ _ 1
   exact k.symm ▸ (by omega)
 · have k:=(f 1 (-2)).2.1
   rw [(h 1 (-2)).1,(h 1 (-2)).2] at k
   show 0 < lin (hv K a b 1) (hv K a b 2) _ _ 1
   exact k.symm ▸ (by omega)
 · have k:=(f 2 (-1)).2.2.1
   rw [(h 2 (-1)).1,(h 2 (-1)).2] at k
   show 0 < lin (hv K a b 2) (hv K a b 3) _ _ 1
   exact k.symm ▸ (by omega)
 · have k:=(f 1 1).2.2.2.1
   rw [(h 1 1).1,(h 1 1).2] at k
   show 0 < lin (hv K a b 3) (hv K a b 4) _ _ 1
   exact k.symm ▸ (by omega)
 · have k:=(f (-1) 2).2.2.2.2.1
   rw [(h (-1) 2).1,(h (-1) 2).2] at k
   show 0 < lin (hv K a b 4) (hv K a b 5) _ _ 1
   exact k.symm ▸ (by omega)
 · have k:=(f (-2) 1).2.2.2.2.2
   rw [(h (-2) 1).1,(h (-2) 1).2] at k
   show 0 < lin (hv K a b 5) (hv K a b 0) _ _ 1
   exact k.symm ▸ (by omega)
theorem hexG_hv (K:Nat) (a b:Int):ptG (hexG K a b)=hv K a b:=by
 funext j
 unfold ptG hv
 rw [show j*2=2*j by omega,hexG_even,hexG_odd]
theorem hexG_box {K:Nat} {a b:Int} (hK:K≤12) (ha: -400000000≤a∧a≤400000000) (hb: -400000000≤b∧b≤400000000) (o:Nat) (ho:o < 12): -1152921504606846976≤hexG K a b o∧hexG K a b o≤1152921504606846976:=by
 have hw:=way_box (o / 2) (by omega)
 have hc:=ct_box (a:=3*a+wayA (o / 2)) (b:=3*b+wayB (o / 2)) hK (by omega) (by omega)
 unfold hexG
 split
 · unfold coX poX;omega
 · unfold coY poY;omega
set_option maxHeartbeats 8000000 in
set_option maxRecDepth 20000 in
theorem rtouch_out (r a b l1 l2 u1 u2:Int) (ok fa fb:Bool) (h:ok=false∨(ok=true∧fa=true)∨(ok=true∧fa=false∧fb=true)∨(ok=true∧fa=false∧fb=false∧u1 < l1)∨(ok=true∧fa=false∧fb=false∧decide (u1 < l1)=false∧u2 < l2))
 (OKC:∀ w,Calls Tryz.prog 34 #[.agg #[.int .i64 r,.int .i64 a,.int .i64 b]] w fun e w'=>e=.returned (.bool ok)∧Below w.heap.size w w')
 (FA:∀ w,Calls Tryz.prog 51 #[.int .i64 l1,.int .i64 l2] w fun e w'=>e=.returned (.bool fa)∧w'=w)
 (FB:∀ w,Calls Tryz.prog 51 #[.int .i64 u1,.int .i64 u2] w fun e w'=>e=.returned (.bool fb)∧w'=w) (w:World) :
 Calls Tryz.prog 23 #[.agg #[.int .i64 r,.int .i64 a,.int .i64 b],.agg #[.int .i64 l1,.int .i64 l2],.agg #[.int .i64 u1,.int .i64 u2]] w fun e w'=>e=.returned (.bool false)∧Below w.heap.size w w':=by
 replace OKC:Hid _:=OKC
 replace FA:Hid _:=FA
 replace FB:Hid _:=FB
 have S0:=hidd (tou_made w 25 38 38 r a b l1 l2 u1 u2)
 have B0:=hidd (belowT (belowT (allocB w (.cells #[.int .i64 r,.int .i64 a,.int .i64 b] 25)) (allocB _ (.cells #[.int .i64 l1,.int .i64 l2] 38))) (allocB _ (.cells #[.int .i64 u1,.int .i64 u2] 38)))
 go_enter Tryz.func23,Tryz.ntmps23
 go_wp2_with fail
 generalize ((w.alloc (.cells #[.int .i64 r,.int .i64 a,.int .i64 b] 25)).alloc (.cells #[.int .i64 l1,.int .i64 l2] 38)).alloc (.cells #[.int .i64 u1,.int .i64 u2] 38)=w0 at *
 refine (OKC.out _).mono ?_
 rintro e w1 ⟨rfl,b1⟩
 have B1:=hidd (belowT B0.out b1)
 obtain ⟨-,hL,hU⟩:=S0.out.keep b1
 have y0:=hL 0 (by omega)
 have y1:=hL 1 (by omega)
 have z0:=hU 0 (by omega)
 have z1:=hU 1 (by omega)
 simp only [prT] at y0 y1 z0 z1
 clear S0 B0 OKC b1 hL hU
 rcases h with rfl | ⟨rfl,rfl⟩ | ⟨rfl,rfl,rfl⟩ | ⟨rfl,rfl,rfl,h4⟩ | ⟨rfl,rfl,rfl,h4,h5⟩
 · go_wp2_with fail
   go_ret
   exact ⟨rfl,B1.out⟩
 · go_wp2_with fail
   refine (FA.out _).mono ?_
   rintro e w' ⟨rfl,rfl⟩
   go_wp2_with fail
   go_ret
   exact ⟨rfl,B1.out⟩
 all_goals
  go_wp2_with fail
  refine (FA.out _).mono ?_
  rintro e w' ⟨rfl,rfl⟩
  go_wp2_with fail
  refine (FB.out _).mono ?_
  rintro e w'' ⟨rfl,rfl⟩
  go_wp2_with fail
  go_ret
  exact ⟨rfl,B1.out⟩
def TouP (r a b l1 l2 u1 u2:Int):Prop:=Ok4 r a b∧(¬ FarT l1 l2)∧(¬ FarT u1 u2)∧(l1≤u1∧l2≤u2)∧Tou (12 - r).toNat l1 l2 u1 u2 a b
theorem r_touch (r a b l1 l2 u1 u2:Int) (t:Bool) (ht:t=true↔TouP r a b l1 l2 u1 u2) (w:World) :
 Calls Tryz.prog 23 #[.agg #[.int .i64 r,.int .i64 a,.int .i64 b],.agg #[.int .i64 l1,.int .i64 l2],.agg #[.int .i64 u1,.int .i64 u2]] w fun e w'=>e=.returned (.bool t)∧Below w.heap.size w w':=by
 have no:¬ TouP r a b l1 l2 u1 u2→t=false:=fun h=>by
  cases ee:t with
  | false=>rfl
  | true=>exact absurd (ht.1 ee) h
 by_cases hok:Ok4 r a b
 · have OKC:=fun w=>rok_any r a b w
   rw [ok4_mk hok] at OKC
   by_cases f1:FarT l1 l2
   · rw [no fun h=>h.2.1 f1]
     by_cases f2:FarT u1 u2
     · exact rtouch_out r a b l1 l2 u1 u2 true true true (.inr (.inl ⟨rfl,rfl⟩)) OKC (fun w=>rfar_yes f1 w) (fun w=>rfar_yes f2 w) w
     · exact rtouch_out r a b l1 l2 u1 u2 true true false (.inr (.inl ⟨rfl,rfl⟩)) OKC (fun w=>rfar_yes f1 w) (fun w=>rfar_no f2 w) w
   · by_cases f2:FarT u1 u2
     · rw [no fun h=>h.2.2.1 f2]
       exact rtouch_out r a b l1 l2 u1 u2 true false true (.inr (.inr (.inl ⟨rfl,rfl,rfl⟩))) OKC (fun w=>rfar_no f1 w) (fun w=>rfar_yes f2 w) w
     · by_cases h1:l1≤u1
       · by_cases h2:l2≤u2
         · have hK:(12 - r).toNat≤12:=by have:=hok.1;omega
           have hr:12 - r=((12 - r).toNat:Int):=by have:=hok.2.1;omega
           have hp:=ok4_part hok
           refine rtouch_main r a b l1 l2 u1 u2 (hexG (12 - r).toNat a b) t ?_ ?_ (fun o ho=>hexG_box hK hp.1 hp.2 o ho) f1 f2 h1 h2 OKC (fun w=>rhex_yes a b r _ hK hr ⟨by omega,by omega⟩ ⟨by omega,by omega⟩ w) w
           · rw [hexG_hv]
             refine ht.trans ⟨fun h=>?_,fun h=>⟨hok,f1,f2,⟨h1,h2⟩,meets_of (hv_bent hK a b) (by omega) (by omega) h⟩⟩
             exact unparted_of (hv_bent hK a b) h.2.2.2.2
           · intro i hi
             have:=hv_opp hK a b i hi
             rw [← hexG_hv] at this
             exact this
         · rw [no fun h=>h2 h.2.2.2.1.2]
           exact rtouch_out r a b l1 l2 u1 u2 true false false (.inr (.inr (.inr (.inr ⟨rfl,rfl,rfl,by simp only [decide_eq_false_iff_not];omega,by omega⟩)))) OKC (fun w=>rfar_no f1 w) (fun w=>rfar_no f2 w) w
       · rw [no fun h=>h1 h.2.2.2.1.1]
         exact rtouch_out r a b l1 l2 u1 u2 true false false (.inr (.inr (.inr (.inl ⟨rfl,rfl,rfl,by omega⟩)))) OKC (fun w=>rfar_no f1 w) (fun w=>rfar_no f2 w) w
 · have OKC:=fun w=>rok_any r a b w
   rw [ok4_no hok] at OKC
   rw [no fun h=>hok h.1]
   by_cases f1:FarT l1 l2
   · by_cases f2:FarT u1 u2
     · exact rtouch_out r a b l1 l2 u1 u2 false true true (.inl rfl) OKC (fun w=>rfar_yes f1 w) (fun w=>rfar_yes f2 w) w
     · exact rtouch_out r a b l1 l2 u1 u2 false true false (.inl rfl) OKC (fun w=>rfar_yes f1 w) (fun w=>rfar_no f2 w) w
   · by_cases f2:FarT u1 u2
     · exact rtouch_out r a b l1 l2 u1 u2 false false true (.inl rfl) OKC (fun w=>rfar_no f1 w) (fun w=>rfar_yes f2 w) w
     · exact rtouch_out r a b l1 l2 u1 u2 false false false (.inl rfl) OKC (fun w=>rfar_no f1 w) (fun w=>rfar_no f2 w) w
end Go.Proofs.YtdklpgphmoaniaaGreatDoor
