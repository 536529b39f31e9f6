/-
  What the document's own Touches tells: whether a cell that may be and a box, not too far away, have a point in common; in whatever memory.
-/
import Derived.Test.YtdklpgphmoaniabGreatDoorPHexX
import Derived.Test.YtdklpgphmoaniabGreatDoorJn27
import Derived.Test.YtdklpgphmoaniabGreatDoorRows
import Derived.LaidMore
import Derived.Stop.LaidErr
namespace Go.Proofs.YtdklpgphmoaniabGreatDoor
open Go.RowKit
def FarT (x y:Int):Prop:=x < -2147483648∨2147483648 < x∨y < -2147483648∨2147483648 < y
def sgT (n:Int):Int:=if n < 0 then -1 else if 0 < n then 1 else 0
theorem sgT_eq {p q:Int × Int} {x y:Int}:sgT (crs p q x y)=if decide ((q.1 - p.1)*(y - p.2) < (q.2 - p.2)*(x - p.1))=true then -1 else if decide ((q.2 - p.2)*(x - p.1) < (q.1 - p.1)*(y - p.2))=true then 1 else 0:=by
 unfold sgT crs
 simp only [decide_eq_true_eq]
 by_cases h1:(q.1 - p.1)*(y - p.2) < (q.2 - p.2)*(x - p.1)
 · rw [if_pos (by omega),if_pos h1]
 · rw [if_neg (by omega),if_neg h1]
   by_cases h2:(q.2 - p.2)*(x - p.1) < (q.1 - p.1)*(y - p.2)
   · rw [if_pos (by omega),if_pos h2]
   · rw [if_neg (by omega),if_neg h2]
theorem sgT_pos {n:Int} (h:0 < n):sgT n=1:=by unfold sgT;rw [if_neg (by omega),if_pos h]
theorem sgT_ways (n:Int):(sgT n= -1∧n < 0)∨(sgT n=0∧n=0)∨(sgT n=1∧0 < n):=by
 unfold sgT
 by_cases h1:n < 0
 · rw [if_pos h1];omega
 · rw [if_neg h1]
   by_cases h2:0 < n
   · rw [if_pos h2];omega
   · rw [if_neg h2];omega
def Row12 (g n:Nat) (G:Nat→Int) (w:World):Prop:=∀ o < n,w.cell? ⟨g,o,none⟩=some (.int .i64 (G o))
theorem Row12.keep {g n:Nat} {G:Nat→Int} {w w':World} (h:Row12 g n G w) (hb:Below w.heap.size w w'):Row12 g n G w':=fun o ho=>keepCell hb (h o ho)
def ptG (G:Nat→Int) (j:Nat):Int × Int:=(G (j*2),G (j*2+1))
def boxC (l1 l2 u1 u2:Int):Nat→Int
 | 0=>3*l1 | 1=>3*l2 | 2=>3*u1 | 3=>3*l2 | 4=>3*u1 | 5=>3*u2 | 6=>3*l1 | _=>3*u2
theorem boxC_box {l1 l2 u1 u2 B:Int} (h1: -B≤3*l1∧3*l1≤B) (h2: -B≤3*l2∧3*l2≤B) (h3: -B≤3*u1∧3*u1≤B) (h4: -B≤3*u2∧3*u2≤B) (o:Nat): -B≤boxC l1 l2 u1 u2 o∧boxC l1 l2 u1 u2 o≤B:=by
 unfold boxC
 split <;>assumption
theorem row_boxC (w:World) (e:TypeId) (l1 l2 u1 u2:Int):Row12 w.heap.size 8 (boxC l1 l2 u1 u2) (w.alloc (.cells #[.int .i64 (3*l1),.int .i64 (3*l2),.int .i64 (3*u1),.int .i64 (3*l2),.int .i64 (3*u1),.int .i64 (3*u2),.int .i64 (3*l1),.int .i64 (3*u2)] e)):=fun o ho=>by
 obtain rfl | rfl | rfl | rfl | rfl | rfl | rfl | rfl:o=0∨o=1∨o=2∨o=3∨o=4∨o=5∨o=6∨o=7:=by omega
 all_goals
  unfold boxC
  go_simp
theorem corner_ix {k j:Nat} (h:k < 6) (c:Nat) (hj:(k+c)%6=j):j < 6∧((k:Int)+c)%6=(j:Int)∧((k:Int)+c).tmod 6=(j:Int):=by
 have e:(((k+c)%6:Nat):Int)=((k:Int)+(c:Int))%6:=by push_cast;rfl
 refine ⟨by omega,by rw [← e,hj],?_⟩
 rw [Int.tmod_eq_emod_of_nonneg (by omega),← e,hj]
def TouS (n:Nat) (r a b:Int) (L U:Nat→Int) (w:World):Prop :=
 (w.cell? ⟨n,0,none⟩=some (.int .i64 r)∧w.cell? ⟨n,1,none⟩=some (.int .i64 a)∧w.cell? ⟨n,2,none⟩=some (.int .i64 b))∧Row12 (n+1) 2 L w∧Row12 (n+1+1) 2 U w
theorem TouS.keep {n:Nat} {r a b:Int} {L U:Nat→Int} {w w':World} (h:TouS n r a b L U w) (hb:Below w.heap.size w w'):TouS n r a b L U w' :=
 ⟨⟨keepCell hb h.1.1,keepCell hb h.1.2.1,keepCell hb h.1.2.2⟩,h.2.1.keep hb,h.2.2.keep hb⟩
def prT (x y:Int):Nat→Int
 | 0=>x
 | _=>y
theorem tou_made (w:World) (e1 e2 e3:TypeId) (r a b l1 l2 u1 u2:Int):TouS w.heap.size r a b (prT l1 l2) (prT u1 u2) (((w.alloc (.cells #[.int .i64 r,.int .i64 a,.int .i64 b] e1)).alloc (.cells #[.int .i64 l1,.int .i64 l2] e2)).alloc (.cells #[.int .i64 u1,.int .i64 u2] e3)):=by
 refine ⟨⟨by go_simp,by go_simp,by go_simp⟩,fun o ho=>?_,fun o ho=>?_⟩
 · obtain rfl | rfl:o=0∨o=1:=by omega
   · unfold prT;go_simp
   · unfold prT;go_simp
 · obtain rfl | rfl:o=0∨o=1:=by omega
   · unfold prT;go_simp
   · unfold prT;go_simp
def AxT (G L U:Nat→Int) (a:Nat):Prop:=(∃ i,i < 6∧3*L a≤G (i*2+a))∧∃ i,i < 6∧G (i*2+a)≤3*U a
theorem unparted_ax {G:Nat→Int} {l1 l2 u1 u2:Int}:Unparted (ptG G) (3*l1) (3*l2) (3*u1) (3*u2)↔(∀ a,a < 2→AxT G (prT l1 l2) (prT u1 u2) a) ∧
 ∀ i,i < 6→¬ ∀ c,c < 4→crs (ptG G i) (ptG G ((i+1)%6)) (boxC l1 l2 u1 u2 (c*2)) (boxC l1 l2 u1 u2 (c*2+1)) < 0:=by
 have hc:∀ i,(0≤crs (ptG G i) (ptG G (nx i)) (3*l1) (3*l2)∨0≤crs (ptG G i) (ptG G (nx i)) (3*u1) (3*l2)∨0≤crs (ptG G i) (ptG G (nx i)) (3*u1) (3*u2)∨0≤crs (ptG G i) (ptG G (nx i)) (3*l1) (3*u2)) ↔
  ¬ ∀ c,c < 4→crs (ptG G i) (ptG G ((i+1)%6)) (boxC l1 l2 u1 u2 (c*2)) (boxC l1 l2 u1 u2 (c*2+1)) < 0:=fun i=>by
  constructor
  · intro h k
    have k0:=k 0 (by omega)
    have k1:=k 1 (by omega)
    have k2:=k 2 (by omega)
    have k3:=k 3 (by omega)
    simp only [boxC,nx] at *
    omega
  · intro h
    by_cases c:(0≤crs (ptG G i) (ptG G (nx i)) (3*l1) (3*l2)∨0≤crs (ptG G i) (ptG G (nx i)) (3*u1) (3*l2)∨0≤crs (ptG G i) (ptG G (nx i)) (3*u1) (3*u2)∨0≤crs (ptG G i) (ptG G (nx i)) (3*l1) (3*u2))
    · exact c
    · refine absurd (fun c hc=>?_) h
      obtain rfl | rfl | rfl | rfl:c=0∨c=1∨c=2∨c=3:=by omega
      all_goals
       simp only [boxC,nx] at *
       omega
 constructor
 · rintro ⟨⟨h1,h2⟩,⟨h3,h4⟩,h5⟩
   refine ⟨fun a ha=>?_,fun i hi=>(hc i).1 (h5 i hi)⟩
   obtain rfl | rfl:a=0∨a=1:=by omega
   · exact ⟨h1,h2⟩
   · exact ⟨h3,h4⟩
 · rintro ⟨h1,h2⟩
   exact ⟨h1 0 (by omega),h1 1 (by omega),fun i hi=>(hc i).2 (h2 i hi)⟩
theorem keepFourB {w0 a b:World} {p0 p1 p2 p3:Addr} {v0 v1 v2 v3:Value} (hb:Below a.heap.size a b) (h:a.cell? p0=some v0∧a.cell? p1=some v1∧a.cell? p2=some v2∧a.cell? p3=some v3∧Below w0.heap.size w0 a) :
 b.cell? p0=some v0∧b.cell? p1=some v1∧b.cell? p2=some v2∧b.cell? p3=some v3∧Below w0.heap.size w0 b :=
 ⟨keepCell hb h.1,keepCell hb h.2.1,keepCell hb h.2.2.1,keepCell hb h.2.2.2.1,belowT h.2.2.2.2 hb⟩
theorem keepSixB {w0 a b:World} {p0 p1 p2 p3 p4 p5:Addr} {v0 v1 v2 v3 v4 v5:Value} (hb:Below a.heap.size a b) (h:a.cell? p0=some v0∧a.cell? p1=some v1∧a.cell? p2=some v2∧a.cell? p3=some v3∧a.cell? p4=some v4∧a.cell? p5=some v5∧Below w0.heap.size w0 a) :
 b.cell? p0=some v0∧b.cell? p1=some v1∧b.cell? p2=some v2∧b.cell? p3=some v3∧b.cell? p4=some v4∧b.cell? p5=some v5∧Below w0.heap.size w0 b :=
 ⟨keepCell hb h.1,keepCell hb h.2.1,keepCell hb h.2.2.1,keepCell hb h.2.2.2.1,keepCell hb h.2.2.2.2.1,keepCell hb h.2.2.2.2.2.1,belowT h.2.2.2.2.2.2 hb⟩
theorem hv_opp {K:Nat} (hK:K≤12) (a b:Int):∀ i,i < 6→0 < crs (hv K a b i) (hv K a b ((i+1)%6)) (hv K a b ((i+3)%6)).1 (hv K a b ((i+3)%6)).2:=fun i hi=>by
 have hd:=(dvK_box hK).1
 rw [← lin_one]
 have h:=fun p q=>re_corner K a b p q
 have f:=fun p q=>lin_side K a b (coX K a b p q) (coY K a b p q) 1
 obtain rfl | rfl | rfl | rfl | rfl | rfl:i=0∨i=1∨i=2∨i=3∨i=4∨i=5:=by omega
 · have k:=(f (-1) (-1)).1
   rw [(h (-1) (-1)).1,(h (-1) (-1)).2] at k
   show 0 < lin (hv K a b 0) (hv K a b 1) _ _ 1
   exact k.symm ▸ (by omega)
 · have k:=(f 1 (-2)).2.1
   rw [(h 1 (-2)).1,(h 1 (-2)).2] at k
   show 0 < lin (hv K a b 1) (hv K a b 2) _ _ 1
   exact k.symm ▸ (by omega)
 · have k:=(f 2 (-1)).2.2.1
   rw [(h 2 (-1)).1,(h 2 (-1)).2] at k
   show 0 < lin (hv K a b 2) (hv K a b 3) _ _ 1
   exact k.symm ▸ (by omega)
 · have k:=(f 1 1).2.2.2.1
   rw [(h 1 1).1,(h 1 1).2] at k
   show 0 < lin (hv K a b 3) (hv K a b 4) _ _ 1
   exact k.symm ▸ (by omega)
 · have k:=(f (-1) 2).2.2.2.2.1
   rw [(h (-1) 2).1,(h (-1) 2).2] at k
   show 0 < lin (hv K a b 4) (hv K a b 5) _ _ 1
   exact k.symm ▸ (by omega)
 · have k:=(f (-2) 1).2.2.2.2.2
   rw [(h (-2) 1).1,(h (-2) 1).2] at k
   show 0 < lin (hv K a b 5) (hv K a b 0) _ _ 1
   exact k.symm ▸ (by omega)
theorem hexG_hv (K:Nat) (a b:Int):ptG (hexG K a b)=hv K a b:=by
 funext j
 unfold ptG hv
 rw [show j*2=2*j by omega,hexG_even,hexG_odd]
theorem hexG_box {K:Nat} {a b:Int} (hK:K≤12) (ha: -400000000≤a∧a≤400000000) (hb: -400000000≤b∧b≤400000000) (o:Nat) (ho:o < 12): -1152921504606846976≤hexG K a b o∧hexG K a b o≤1152921504606846976:=by
 have hw:=way_box (o / 2) (by omega)
 have hc:=ct_box (a:=3*a+wayA (o / 2)) (b:=3*b+wayB (o / 2)) hK (by omega) (by omega)
 unfold hexG
 split
 · unfold coX poX;omega
 · unfold coY poY;omega
def TouP (r a b l1 l2 u1 u2:Int):Prop:=Ok4 r a b∧(¬ FarT l1 l2)∧(¬ FarT u1 u2)∧(l1≤u1∧l2≤u2)∧Tou (12 - r).toNat l1 l2 u1 u2 a b
abbrev Ed:=(Int × Int) × (Int × Int)
def edL (e:Ed):List Value:=[.int .i64 e.1.1,.int .i64 e.1.2,.int .i64 e.2.1,.int .i64 e.2.2]
def edV (L:List Ed):List Value:=L.flatMap edL
theorem edV_cons (e:Ed) (L:List Ed):edV (e :: L)=.int .i64 e.1.1 :: .int .i64 e.1.2 :: .int .i64 e.2.1 :: .int .i64 e.2.2 :: edV L:=rfl
theorem edV_app (L M:List Ed):edV (L++M)=edV L++edV M:=by unfold edV;rw [List.flatMap_append]
theorem edV_one (e:Ed):edV [e]=[.int .i64 e.1.1,.int .i64 e.1.2,.int .i64 e.2.1,.int .i64 e.2.2]:=by unfold edV;simp [edL]
theorem edV_len:∀ L:List Ed,(edV L).length=L.length*4
 | []=>rfl
 | p :: L=>by rw [edV_cons];simp only [List.length_cons,edV_len L];omega
theorem edV_at:∀ (L:List Ed) (i:Nat) (h:i < L.length),(edV L)[i*4]?=some (.int .i64 L[i].1.1)∧(edV L)[i*4+1]?=some (.int .i64 L[i].1.2)∧(edV L)[i*4+2]?=some (.int .i64 L[i].2.1)∧(edV L)[i*4+3]?=some (.int .i64 L[i].2.2)
 | p :: L,0,_=>by rw [edV_cons];exact ⟨rfl,rfl,rfl,rfl⟩
 | p :: L,i+1,h=>by
  rw [edV_cons,show (i+1)*4=i*4+1+1+1+1 by omega]
  have:=edV_at L i (by simpa using h)
  simp only [List.getElem?_cons_succ,List.getElem_cons_succ]
  exact this
def RowD (base:Nat) (v:Value) (L:List Ed) (w:World):Prop:=w.ownsRow base 81 4 v L.length (edV L)
theorem RowD.keep {base:Nat} {v:Value} {L:List Ed} {w w':World} (h:RowD base v L w) (hb:Below w.heap.size w w'):RowD base v L w':=own_keep hb h
theorem RowD.any {base:Nat} {v:Value} {L:List Ed} {w:World} (h:RowD base v L w):∃ p c,v=.slice p L.length c:=own_any h
theorem RowD.at_ {base:Nat} {v:Value} {L:List Ed} {w:World} (h:RowD base v L w) (i:Nat) (hi:i < L.length) :
 ∃ g c,v=.slice (some ⟨g,0,none⟩) L.length c∧w.cell? ⟨g,i*4,none⟩=some (.int .i64 L[i].1.1)∧w.cell? ⟨g,i*4+1,none⟩=some (.int .i64 L[i].1.2)∧w.cell? ⟨g,i*4+2,none⟩=some (.int .i64 L[i].2.1)∧w.cell? ⟨g,i*4+3,none⟩=some (.int .i64 L[i].2.2):=by
 obtain ⟨g,c,e,hb,-⟩:=World.ownsRow.form h (by omega)
 have hO:w.ownsRow base 81 4 (.slice (some ⟨g,0,none⟩) L.length c) L.length (edV L):=by rw [← e];exact h
 have f:=edV_at L i hi
 have c:=fun j hj=>World.ownsRow.cellAt hO j hj
 exact ⟨g,_,e,(c _ (by omega)).trans f.1,(c _ (by omega)).trans f.2.1,(c _ (by omega)).trans f.2.2.1,(c _ (by omega)).trans f.2.2.2⟩
def EdB (e:Ed):Prop:=((-34359738368≤e.1.1∧e.1.1≤34359738368)∧(-34359738368≤e.1.2∧e.1.2≤34359738368))∧((-16777216≤e.2.1∧e.2.1≤16777216)∧(-16777216≤e.2.2∧e.2.2≤16777216))
def kpB (e f:Ed):Bool:=decide (e.2.2*(f.1.1 - e.1.1)≤e.2.1*(f.1.2 - e.1.2))
set_option maxHeartbeats 4000000 in
set_option maxRecDepth 20000 in
theorem q_keeps_core (a b c d x y p q m n:Int) (t:Bool) (ha: -34359738368≤a∧a≤34359738368) (hb: -34359738368≤b∧b≤34359738368) (hx: -34359738368≤x∧x≤34359738368) (hy: -34359738368≤y∧y≤34359738368)
 (hm:c*(y - b)=m) (hn:d*(x - a)=n) (m1: -1152921504606846976≤m∧m≤1152921504606846976) (n1: -1152921504606846976≤n∧n≤1152921504606846976) (ht:decide (n≤m)=t) (w:World) :
 Calls Tryz.prog 42 #[.agg #[.int .i64 a,.int .i64 b,.int .i64 c,.int .i64 d],.agg #[.int .i64 x,.int .i64 y,.int .i64 p,.int .i64 q]] w fun e w'=>e=.returned (.bool t)∧Below w.heap.size w w':=by
 subst ht
 go_enter Tryz.func42,Tryz.ntmps42
 go_wp2
 go_ret
 exact ⟨rfl,by go_grown⟩
theorem q_keeps (e f:Ed) (he:EdB e) (hf:EdB f) (w:World) :
 Calls Tryz.prog 42 #[.agg #[.int .i64 e.1.1,.int .i64 e.1.2,.int .i64 e.2.1,.int .i64 e.2.2],.agg #[.int .i64 f.1.1,.int .i64 f.1.2,.int .i64 f.2.1,.int .i64 f.2.2]] w fun r w'=>r=.returned (.bool (kpB e f))∧Below w.heap.size w w':=by
 obtain ⟨⟨h1,h2⟩,h3,h4⟩:=he
 obtain ⟨⟨k1,k2⟩,-⟩:=hf
 have m1:=mul_in (a:=e.2.1) (b:=f.1.2 - e.1.2) (A:=16777216) (B:=68719476736) h3 (by omega)
 have m2:=mul_in (a:=e.2.2) (b:=f.1.1 - e.1.1) (A:=16777216) (B:=68719476736) h4 (by omega)
 exact q_keeps_core _ _ _ _ _ _ _ _ _ _ _ h1 h2 k1 k2 rfl rfl (by omega) (by omega) rfl w
def hasB (e:Ed) (L:List Ed):Bool:=L.any (kpB e)
def outB (M L:List Ed):Bool:=M.any fun e=> !hasB e L
theorem any_step {α:Type} {f:α→Bool} {L:List α} {j:Nat} (hj:j < L.length) (h:(L.take j).any f=false):(f L[j]=true→L.any f=true)∧(f L[j]=false→(L.take (j+1)).any f=false):=by
 constructor
 · intro k
   exact List.any_eq_true.2 ⟨_,List.getElem_mem hj,k⟩
 · intro k
   rw [List.take_add_one,List.getElem?_eq_getElem hj,List.any_append,h]
   simpa using k
theorem any_end {α:Type} {f:α→Bool} {L:List α} {j:Nat} (hj:j=L.length) (h:(L.take j).any f=false):L.any f=false:=by rwa [hj,List.take_length] at h
set_option maxHeartbeats 8000000 in
set_option maxRecDepth 20000 in
theorem q_index (e:Ed) (he:EdB e) (base:Nat) (v:Value) (L:List Ed) (hL:∀ f∈L,EdB f) (hn:L.length≤1000) (w:World) (hO:RowD base v L w) :
 Calls Tryz.prog 68 #[v,.func (.func 42) #[.agg #[.int .i64 e.1.1,.int .i64 e.1.2,.int .i64 e.2.1,.int .i64 e.2.2]] #[]] w fun r w'=>(∃ n:Int,r=.returned (.int .i64 n)∧decide (0≤n)=hasB e L)∧Below w.heap.size w w':=by
 have KE:=hidd fun f (hf:f∈L) w=>q_keeps e f he (hL f hf) w
 have HO:=hidd hO
 obtain ⟨n,en⟩:∃ n,L.length=n:=⟨_,rfl⟩
 obtain ⟨p,c,rfl⟩:=hO.any
 rw [en] at hn HO ⊢
 have EN:=hidd en
 clear hO hL en he
 go_enter Tryz.func68,Tryz.ntmps68
 go_wp2
 go_loopw [8] (fun v8 wr=>∃ j:Nat,j≤n∧v8=.int .i64 (j:Int)∧Hid ((L.take j).any (kpB e)=false)∧Hid (Below w.heap.size w wr)) (fun v8 _=>n - (intOf v8).toNat)
 case atStart=>exact ⟨0,by omega,rfl,hidd (by simp),hidd (Below.refl _ _)⟩
 case round =>
  obtain ⟨j,hj,rfl,TK,B⟩:=hrel
  by_cases hjn:j < n
  · have hj':(j:Int) < (n:Int):=by omega
    have hjL:j < L.length:=by rw [EN.out];exact hjn
    have O:=RowD.keep HO.out B.out
    rw [← EN.out] at O
    obtain ⟨g,c',e0,y0,y1,y2,y3⟩:=O.at_ j hjL
    simp only [Value.slice.injEq] at e0
    obtain ⟨rfl,-,rfl⟩:=e0
    have K1:=hidd fun w=>KE.out L[j] (List.getElem_mem hjL) w
    have ST:=hidd (any_step (f:=kpB e) hjL TK.out)
    clear O KE
    generalize kpB e L[j]=t at *
    generalize L[j].1.1=f1 at *
    generalize L[j].1.2=f2 at *
    generalize L[j].2.1=f3 at *
    generalize L[j].2.2=f4 at *
    cases t
    · go_wp2_with fail
      refine (K1.out _).mono ?_
      rintro r w1 ⟨rfl,b1⟩
      have B1:=hidd (belowT B.out b1)
      clear y0 y1 y2 y3 K1 b1
      go_wp2
      go_roundw
      case rel=>exact ⟨j+1,by omega,by go_num,hidd (ST.out.2 (by simp)),B1⟩
      case measure=>simp [intOf];omega
    · go_wp2_with fail
      refine (K1.out _).mono ?_
      rintro r w1 ⟨rfl,b1⟩
      have B1:=hidd (belowT B.out b1)
      clear y0 y1 y2 y3 K1 b1
      go_wp2
      go_ret
      exact ⟨⟨_,rfl,by unfold hasB;rw [ST.out.1 (by simp)];simp⟩,B1.out⟩
  · obtain rfl:j=n:=by omega
    have hj':decide ((j:Int) < (j:Int))=false:=by simp
    go_wp2
    go_ret
    exact ⟨⟨_,rfl,by unfold hasB;rw [any_end EN.out.symm TK.out];rfl⟩,B.out⟩
set_option maxHeartbeats 4000000 in
set_option maxRecDepth 20000 in
theorem q_has (e:Ed) (he:EdB e) (base:Nat) (v:Value) (L:List Ed) (hL:∀ f∈L,EdB f) (hn:L.length≤1000) (w:World) (hO:RowD base v L w) :
 Calls Tryz.prog 41 #[v,.func (.func 42) #[.agg #[.int .i64 e.1.1,.int .i64 e.1.2,.int .i64 e.2.1,.int .i64 e.2.2]] #[]] w fun r w'=>r=.returned (.bool (hasB e L))∧Below w.heap.size w w':=by
 have QI:=hidd (q_index e he base v L hL hn w hO)
 obtain ⟨p,c,rfl⟩:=hO.any
 clear hO hL
 go_enter Tryz.func41,Tryz.ntmps41
 go_wp2_with fail
 refine QI.out.mono ?_
 rintro r w1 ⟨⟨n,rfl,hd⟩,b1⟩
 have HD:=hidd hd
 clear hd QI
 go_wp2
 go_ret
 exact ⟨by rw [← HD.out];rfl,b1⟩
set_option maxHeartbeats 8000000 in
set_option maxRecDepth 20000 in
theorem q_out (base base2:Nat) (v v2:Value) (M L:List Ed) (hM:∀ f∈M,EdB f) (hL:∀ f∈L,EdB f) (hm:M.length≤1000) (hn:L.length≤1000) (w:World) (hO:RowD base v M w) (hO2:RowD base2 v2 L w) :
 Calls Tryz.prog 25 #[v,v2] w fun r w'=>r=.returned (.bool (outB M L))∧Below w.heap.size w w':=by
 have HO:=hidd hO
 obtain ⟨n,en⟩:∃ n,M.length=n:=⟨_,rfl⟩
 obtain ⟨p,c,rfl⟩:=hO.any
 have HQ:=hidd fun f (hf:f∈M) w (h:RowD base2 v2 L w)=>q_has f (hM f hf) base2 v2 L hL hn w h
 have HO2:=hidd hO2
 obtain ⟨p2,c2,rfl⟩:=hO2.any
 rw [en] at hm HO ⊢
 have EN:=hidd en
 clear hO hL en hM hO2
 go_enter Tryz.func25,Tryz.ntmps25
 go_wp2
 go_loopw [9] (fun v9 wr=>∃ j:Nat,j≤n∧v9=.int .i64 (j:Int)∧Hid ((M.take j).any (fun e=> !hasB e L)=false)∧Hid (Below w.heap.size w wr)) (fun v9 _=>n - (intOf v9).toNat)
 case atStart=>exact ⟨0,by omega,rfl,hidd (by simp),hidd (Below.refl _ _)⟩
 case round =>
  obtain ⟨j,hj,rfl,TK,B⟩:=hrel
  by_cases hjn:j < n
  · have hj':(j:Int) < (n:Int):=by omega
    have hjL:j < M.length:=by rw [EN.out];exact hjn
    have O:=RowD.keep HO.out B.out
    rw [← EN.out] at O
    obtain ⟨g,c',e0,y0,y1,y2,y3⟩:=O.at_ j hjL
    simp only [Value.slice.injEq] at e0
    obtain ⟨rfl,-,rfl⟩:=e0
    have B1:=hidd (belowT B.out (allocB wr (.cells #[.int .i64 M[j].1.1,.int .i64 M[j].1.2,.int .i64 M[j].2.1,.int .i64 M[j].2.2] 81)))
    have K1:=hidd (HQ.out M[j] (List.getElem_mem hjL) _ (HO2.out.keep B1.out))
    have ST:=hidd (any_step (f:=fun e=> !hasB e L) hjL TK.out)
    clear O HQ
    generalize hasB M[j] L=t at *
    generalize M[j].1.1=f1 at *
    generalize M[j].1.2=f2 at *
    generalize M[j].2.1=f3 at *
    generalize M[j].2.2=f4 at *
    cases t
    · go_wp2_with fail
      refine K1.out.mono ?_
      rintro r w1 ⟨rfl,b1⟩
      have B2:=hidd (belowT B1.out b1)
      clear y0 y1 y2 y3 K1 b1
      go_wp2
      go_ret
      exact ⟨by unfold outB;rw [ST.out.1 (by simp)];rfl,B2.out⟩
    · go_wp2_with fail
      refine K1.out.mono ?_
      rintro r w1 ⟨rfl,b1⟩
      have B2:=hidd (belowT B1.out b1)
      clear y0 y1 y2 y3 K1 b1
      go_wp2
      go_roundw
      case rel=>exact ⟨j+1,by omega,by go_num,hidd (ST.out.2 (by simp)),B2⟩
      case measure=>simp [intOf];omega
  · obtain rfl:j=n:=by omega
    have hj':decide ((j:Int) < (j:Int))=false:=by simp
    go_wp2
    go_ret
    exact ⟨by unfold outB;rw [any_end EN.out.symm TK.out];rfl,B.out⟩
end Go.Proofs.YtdklpgphmoaniabGreatDoor
