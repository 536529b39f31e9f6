/-
  What the texts PIns, PBx say, so far as this seat's proofs need it.
-/
import Derived.Test.YtbnlhdnnenahfaaGreatDoorPO3Y
import Derived.Test.YtbnlhdnnenahfaaGreatDoorPO4Y
set_option maxHeartbeats 16000000
set_option maxRecDepth 100000
namespace Go.Proofs.YtbnlhdnnenahfaaGreatDoor
open Go.RowKit Go
attribute [local go_sem] Oper.semAt_some
theorem Cx (S:Int):decide ((S+1)%2=1)= !decide (S%2=1):=by
 by_cases h:S%2=1
 · rw[decide_eq_true h,decide_eq_false (by omega)];rfl
 · rw[decide_eq_false h,decide_eq_true (by omega)];rfl
def InS (r v:Nat)(x y:Int)(t:Bool)(X:World):Prop :=
 X.cell? ⟨r,0,none⟩=some (.bool false)/\X.frozen? ⟨r,0,none⟩=false/\X.cell? ⟨r+1,0,none⟩=some (.int .i64 x)/\X.cell? ⟨r+1,1,none⟩=some (.int .i64 y)/\X.cell? ⟨v,0,none⟩=some (.bool t)/\X.frozen? ⟨v,0,none⟩=false
theorem InS.low {r v B:Nat}{x y:Int}{t:Bool}{X Y:World}(h:InS r v x y t X)(hb:Below B X Y)(h1:v<B)(h2:r+1<v):InS r v x y t Y :=
 ⟨(hb.cell (p:=⟨r,0,none⟩) (by simp;omega)).trans h.1,(hb.frozen (p:=⟨r,0,none⟩) (by simp;omega)).trans h.2.1,(hb.cell (p:=⟨r+1,0,none⟩) (by simp;omega)).trans h.2.2.1,(hb.cell (p:=⟨r+1,1,none⟩) (by simp;omega)).trans h.2.2.2.1,(hb.cell (p:=⟨v,0,none⟩) (by simp;omega)).trans h.2.2.2.2.1,(hb.frozen (p:=⟨v,0,none⟩) (by simp;omega)).trans h.2.2.2.2.2⟩
theorem InS.put {r v:Nat}{x y:Int}{t:Bool}{X:World}(h:InS r v x y t X)(u:Bool)(h2:r+1<v):InS r v x y u (X.setCell ⟨v,0,none⟩ (.bool u)) :=
 ⟨ah h.1 (by intro e;injection e;omega),by rw[World.frozen?_setCell];exact h.2.1,ah h.2.2.1 (by intro e;injection e;omega),ah h.2.2.2.1 (by intro e;injection e;omega),ay h.2.2.2.2.1,by rw[World.frozen?_setCell];exact h.2.2.2.2.2⟩
theorem CU (s:Value)(G:List (List (Int×Int)))(x y:Int)(b:Bool)(hb:b=true↔InT G x y)(hn:G.length<=1000000)(hl:∀L∈G,L.length<=1000000)(w:World)(hG:RingsL w s G) :
 Calls Tryz.prog 57 #[s,.int .i64 x,.int .i64 y] w fun e w'=>e=.returned (.bool b)/\Below w.heap.size w w':=by
 have HG:=ab hG;have PM:=ab fun t ht w h=>Jt s G x y t ht hn hl w h;have HN:=ab hn;have HL:=ab hl;have HB:=ab hb;obtain⟨p,cap,hs,-,-⟩:=hG;obtain⟨m,em⟩:∃m,G.length=m:=⟨_,rfl⟩
 rw[em]at hs;subst hs;clear em hn hl hb;refine(callsIn_wide (n:=4)).1 ?_;refine callsIn_of_wp_marks Tryz.func57 rfl trivial ?_ rfl;simp only[Tryz.ntmps57,List.size_toArray,List.length_cons,List.length_nil,Nat.reduceAdd,Nat.reduceSub,Array.replicate_succ,Array.replicate_zero,List.push_toArray,List.append_toArray,List.nil_append,List.cons_append];have B2:=ab (ae (ag w (.cells #[.bool false] 4)) (ag _ (.cells #[.int .i64 x,.int .i64 y] 26)));have rc:((w.alloc (.cells #[.bool false] 4)).alloc (.cells #[.int .i64 x,.int .i64 y] 26)).cell? ⟨w.heap.size,0,none⟩=some (.bool false)/\((w.alloc (.cells #[.bool false] 4)).alloc (.cells #[.int .i64 x,.int .i64 y] 26)).frozen? ⟨w.heap.size,0,none⟩=false /\
  ((w.alloc (.cells #[.bool false] 4)).alloc (.cells #[.int .i64 x,.int .i64 y] 26)).cell? ⟨w.heap.size+1,0,none⟩=some (.int .i64 x)/\((w.alloc (.cells #[.bool false] 4)).alloc (.cells #[.int .i64 x,.int .i64 y] 26)).cell? ⟨w.heap.size+1,1,none⟩=some (.int .i64 y):=⟨by go_simp,by go_simp,by go_simp,by go_simp⟩
 by_cases hok:bv G/\¬ct x y
 · have PM1:=ab fun w h=>PM.out true (by simp only[true_iff];exact hok) w h;have HBo:Hid (b=true↔(0<onG G x y∨crG G x y%2=1)):=ab (HB.out.trans ⟨fun h=>h.2.2,fun h=>⟨hok.1,hok.2,h⟩⟩);have HF:=ab hok.2;have HW:=ab (bI.1 hok.1).2.2.2.2;clear hok HB PM
   gi_wp2_with (first
    | (refine ⟨trivial,?_⟩
       gi_at_call 86
       refine(callsIn_wide.2 (PM1.out _ (HG.out.keep B2.out))).mono ?_;rintro e w2 ⟨rfl,b2⟩;obtain⟨r0,q0,c0,c1⟩:=rc;replace q0:=ac b2 r0 q0;replace r0:=aa b2 r0;replace c0:=aa b2 c0;replace c1:=aa b2 c1;have B3:=ab (ae B2.out b2);clear B2 PM1 b2)
    | (refine ⟨trivial,?_⟩
       gi_at_call 87
       refine(callsIn_wide.2 (zC p m cap _)).mono ?_;rintro e w3 ⟨rfl,rfl⟩)
    | fail)
   have hs2:w.heap.size+2<=w2.heap.size:=World.block_lt_of_cell? _ _ c0;have hal0:=ag w2 (.cells #[.bool false] 4);have v0:(w2.alloc (.cells #[.bool false] 4)).cell? ⟨w2.heap.size,0,none⟩=some (.bool false):=by go_simp
   have v1:(w2.alloc (.cells #[.bool false] 4)).frozen? ⟨w2.heap.size,0,none⟩=false:=by go_simp
   have hal1:=ag (w2.alloc (.cells #[.bool false] 4)) (.cells #[.slice p m cap] 28);have hE:((w2.alloc (.cells #[.bool false] 4)).alloc (.cells #[.slice p m cap] 28)).cell? ⟨w2.heap.size+1,0,none⟩=some (.slice p m cap):=by go_simp
   replace v1:=ac hal1 v0 v1;replace v0:=aa hal1 v0;have hal:=ae hal0 hal1;clear hal0 hal1;generalize (w2.alloc (.cells #[.bool false] 4)).alloc (.cells #[.slice p m cap] 28)=w3 at *;replace q0:=ac hal r0 q0;replace r0:=aa hal r0;replace c0:=aa hal c0;replace c1:=aa hal c1;have B4:=ab (ae B3.out hal);have ES:=ab (tm _ G HN.out HL.out HW.out w w3 HG.out B4.out _ hE);have hs3:w2.heap.size+1<w3.heap.size:=World.block_lt_of_cell? _ _ hE;clear hal hE B3;refine vq rfl (by omega) (gf:=134) (pb:=#[]) (lb:=#[.pointer (some ⟨w2.heap.size+1,0,none⟩)]) rfl trivial (enters_of Tryz.func134 (by kernel_rfl) rfl)
    ES.out (by omega) (fun _=>rfl)
    (fun xs X=>(bg (fun p q=>bi (onB p q x y)) (aO xs)=0/\InS w.heap.size w2.heap.size x y (decide (bg (fun p q=>bi (crB p q x y)) (aO xs)%2=1)) X)/\Below w.heap.size w X)
    (fun c xs X=>c=.ret/\0<bg (fun p q=>bi (onB p q x y)) (aO xs)/\X.cell? ⟨w.heap.size,0,none⟩=some (.bool true)/\Below w.heap.size w X) ?hI ?hIx ⟨⟨rfl,r0,q0,c0,c1,v0,v1⟩,B4.out⟩
    (fun z a' Y=>∃ e:Nat,(Y.cell? ⟨e,0,none⟩=some (.int .i64 z.1.1.1)/\Y.cell? ⟨e,1,none⟩=some (.int .i64 z.1.1.2)/\Y.cell? ⟨e,2,none⟩=some (.int .i64 z.1.2.1)/\Y.cell? ⟨e,3,none⟩=some (.int .i64 z.1.2.2)) /\
      a'={ tmps:=#[.slice p m cap,.int .i64 x,.int .i64 y,undef,undef,undef,.pointer (some ⟨w.heap.size,0,none⟩),.pointer (some ⟨w.heap.size+1,0,none⟩),.pointer (some ⟨w2.heap.size,0,none⟩),.pointer (some ⟨e,0,none⟩),.int .i64 x,.int .i64 y,.agg #[.int .i64 x,.int .i64 y],.slice p m cap,.agg #[.int .i64 x,.int .i64 y],.bool true,.bool false,.slice p m cap,.func (.func 134) #[] #[.pointer (some ⟨w2.heap.size+1,0,none⟩)],.agg #[.int .i64 z.1.1.1,.int .i64 z.1.1.2,.int .i64 z.1.2.1,.int .i64 z.1.2.2],undef,undef,undef,undef,undef,undef,undef,undef,undef],defers:=[] })
    ?hAx ?assign ?body ?done ?stop
   case hI=>exact fun xs Y Z hs hb'=>⟨⟨hs.1.1,hs.1.2.low hb' (by omega) (by omega)⟩,hs.2.trans (hb'.mono (by omega))⟩
   case hIx=>exact fun c xs Y Z hs hb'=>⟨hs.1,hs.2.1,(hb'.cell (p:=⟨w.heap.size,0,none⟩) (by simp;omega)).trans hs.2.2.1,hs.2.2.2.trans (hb'.mono (by omega))⟩
   case hAx =>
    rintro z a' Y Z ⟨e,⟨k0,k1,k2,k3⟩,ha⟩ hc;exact⟨e,⟨hc _ _ k0,hc _ _ k1,hc _ _ k2,hc _ _ k3⟩,ha⟩
   case assign =>
    intro l2 z Y K hs hK
    gi_wp2
    exact hK _ _ ⟨Y.heap.size,⟨by go_simp,by go_simp,by go_simp,by go_simp⟩,rfl⟩ (ag _ _)
   case body =>
    clear r0 q0 c0 c1 v0 v1;rintro l2 xs z a' X ⟨⟨hS,hI⟩,hX⟩ ⟨e,⟨k0,k1,k2,k3⟩,rfl⟩ hs;have HI:=ab hI;have HO:=ab fun w=>FJ z.2.1 z.2.2 HF.out w;have HC:=ab fun w=>FQ z.2.1 z.2.2 HF.out w;have hS2:Hid (bg (fun p q=>bi (onB p q x y)) (aO (xs++[z]))=bi (onB z.1.1 z.1.2 x y)):=ab (by rw[jt,kM,hS];omega);have hC2:Hid (bg (fun p q=>bi (crB p q x y)) (aO (xs++[z]))=bg (fun p q=>bi (crB p q x y)) (aO xs)+bi (crB z.1.1 z.1.2 x y)):=ab (by rw[jt,kM]);obtain⟨r0X,q0X,c0X,c1X,v0X,v1X⟩:=hI;clear hS;by_cases ho:onB z.1.1 z.1.2 x y=true
    · have HO2:=ab fun w=>((by have:=HO.out w;rwa [ho]at this):Calls Tryz.prog 88 #[.agg #[.int .i64 z.1.1.1,.int .i64 z.1.1.2,.int .i64 z.1.2.1,.int .i64 z.1.2.2],.agg #[.int .i64 x,.int .i64 y]] w fun e w'=>e=.returned (.bool true)/\Below w.heap.size w w')
      have HS3:Hid (0<bg (fun p q=>bi (onB p q x y)) (aO (xs++[z]))):=ab (by rw[hS2.out,ho];decide);clear HO HC hS2 hC2 ho HI
      gi_wp2_with (first
       | (refine ⟨trivial,?_⟩
          gi_at_call 88
          refine(CallsIn.inRound l2 (callsIn_wide.2 (HO2.out _))).mono ?_;rintro e5 w5 ⟨rfl,b5⟩;have r5:=aa b5 r0X;have q5:=ac b5 r0X q0X)
       | fail)
      exact⟨(HighP.of_below b5).setCell (p:=⟨w.heap.size,0,none⟩) (by simp;omega) _,rfl,HS3.out,ay r5,(hX.trans (b5.mono hX.size)).setCell (p:=⟨w.heap.size,0,none⟩) (by simp) _⟩
    · have ho':onB z.1.1 z.1.2 x y=false:=by simpa using ho
      have HO2:=ab fun w=>((by have:=HO.out w;rwa [ho']at this):Calls Tryz.prog 88 #[.agg #[.int .i64 z.1.1.1,.int .i64 z.1.1.2,.int .i64 z.1.2.1,.int .i64 z.1.2.2],.agg #[.int .i64 x,.int .i64 y]] w fun e w'=>e=.returned (.bool false)/\Below w.heap.size w w')
      have HS3:Hid (bg (fun p q=>bi (onB p q x y)) (aO (xs++[z]))=0):=ab (by rw[hS2.out,ho'];rfl);clear HO hS2 ho ho';by_cases hc:crB z.1.1 z.1.2 x y=true
      · have HC2:=ab fun w=>((by have:=HC.out w;rwa [hc]at this):Calls Tryz.prog 89 #[.agg #[.int .i64 z.1.1.1,.int .i64 z.1.1.2,.int .i64 z.1.2.1,.int .i64 z.1.2.2],.agg #[.int .i64 x,.int .i64 y]] w fun e w'=>e=.returned (.bool true)/\Below w.heap.size w w')
        have HV:Hid (decide (bg (fun p q=>bi (crB p q x y)) (aO (xs++[z]))%2=1)= !decide (bg (fun p q=>bi (crB p q x y)) (aO xs)%2=1)):=ab (by rw[hC2.out,hc];exact Cx _);clear HC hC2 hc;generalize decide (bg (fun p q=>bi (crB p q x y)) (aO xs)%2=1)=v at *
        gi_wp2_with (first
         | (refine ⟨trivial,?_⟩
            gi_at_call 88
            refine(CallsIn.inRound l2 (callsIn_wide.2 (HO2.out _))).mono ?_;rintro e5 w5 ⟨rfl,b5⟩;replace k0:=aa b5 k0;replace k1:=aa b5 k1;replace k2:=aa b5 k2;replace k3:=aa b5 k3;replace c0X:=aa b5 c0X;replace c1X:=aa b5 c1X;replace v1X:=ac b5 v0X v1X;replace v0X:=aa b5 v0X;clear HO2)
         | (refine ⟨trivial,?_⟩
            gi_at_call 89
            refine(CallsIn.inRound l2 (callsIn_wide.2 (HC2.out _))).mono ?_;rintro e6 w6 ⟨rfl,b6⟩;replace v1X:=ac b6 v0X v1X;replace v0X:=aa b6 v0X;clear HC2)
         | fail)
        have hb6:=ae b5 b6;have hI6:=HI.out.low hb6 (by have:=hX.size;omega) (by omega);have hI7:=hI6.put (!v) (by omega);exact⟨(hb6.mono hX.size).setCell (p:=⟨w2.heap.size,0,none⟩) (by simp;omega) _,(HighP.of_below hb6).setCell (p:=⟨w2.heap.size,0,none⟩) (by simp;omega) _,⟨HS3.out,by rw[HV.out];exact hI7⟩,(hX.trans (hb6.mono hX.size)).setCell (p:=⟨w2.heap.size,0,none⟩) (by simp;omega) _⟩
      · have hc':crB z.1.1 z.1.2 x y=false:=by simpa using hc
        have HC2:=ab fun w=>((by have:=HC.out w;rwa [hc']at this):Calls Tryz.prog 89 #[.agg #[.int .i64 z.1.1.1,.int .i64 z.1.1.2,.int .i64 z.1.2.1,.int .i64 z.1.2.2],.agg #[.int .i64 x,.int .i64 y]] w fun e w'=>e=.returned (.bool false)/\Below w.heap.size w w')
        have HV:Hid (decide (bg (fun p q=>bi (crB p q x y)) (aO (xs++[z]))%2=1)=decide (bg (fun p q=>bi (crB p q x y)) (aO xs)%2=1)):=ab (by
         have e0:bg (fun p q=>bi (crB p q x y)) (aO xs)+bi false=bg (fun p q=>bi (crB p q x y)) (aO xs):=by show _+0=_;omega
         rw[hC2.out,hc',e0])
        clear HC hC2 hc hc';generalize decide (bg (fun p q=>bi (crB p q x y)) (aO xs)%2=1)=v at *
        gi_wp2_with (first
         | (refine ⟨trivial,?_⟩
            gi_at_call 88
            refine(CallsIn.inRound l2 (callsIn_wide.2 (HO2.out _))).mono ?_;rintro e5 w5 ⟨rfl,b5⟩;replace k0:=aa b5 k0;replace k1:=aa b5 k1;replace k2:=aa b5 k2;replace k3:=aa b5 k3;replace c0X:=aa b5 c0X;replace c1X:=aa b5 c1X;clear HO2)
         | (refine ⟨trivial,?_⟩
            gi_at_call 89
            refine(CallsIn.inRound l2 (callsIn_wide.2 (HC2.out _))).mono ?_;rintro e6 w6 ⟨rfl,b6⟩;clear HC2)
         | fail)
        have hb6:=ae b5 b6;have hI6:=HI.out.low hb6 (by have:=hX.size;omega) (by omega);exact⟨hb6.mono hX.size,HighP.of_below hb6,⟨HS3.out,by rw[HV.out];exact hI6⟩,hX.trans (hb6.mono hX.size)⟩
   case done =>
    rintro D xs X hD hxs ⟨⟨hS,hI⟩,hX⟩ hK;have hbF:Hid (decide (bg (fun p q=>bi (crB p q x y)) (aO xs)%2=1)=b):=ab (by
     rw[hxs]at hS ⊢;rw[oV]at hS;rw[vx];have:=HBo.out;cases b
     · simp only[Bool.false_eq_true,false_iff]at this;exact decide_eq_false (by omega)
     · simp only[true_iff]at this;exact decide_eq_true (by omega))
    rw[hbF.out]at hI;have HM:=ab ((MarksP.nil w3.heap.size w3.heap.size X).more (D:=D) hD hD hK);have hsX:=(Array.getElem?_eq_some_iff.1 hK).1;obtain⟨r0X,q0X,-,-,v0X,-⟩:=hI;clear hS hK hxs HBo hbF c0 c1 r0 q0 v0 v1
    gi_wp2
    refine(HM.out.cell (p:=⟨w.heap.size,0,none⟩) (by simp;omega) (.bool b)).leaves (by simp;omega) fun W' hW'=>?_;have hcell:=(hW'.cell (p:=⟨w.heap.size,0,none⟩) (by simp;omega)).trans (ay r0X);exact⟨.bool b,by simp[results,Tryz.results57,go_sem,hcell],rfl,(hX.setCell (p:=⟨w.heap.size,0,none⟩) (by simp) _).trans (hW'.mono (by omega))⟩
   case stop =>
    rintro D c' xs X hD ⟨suf,hsuf⟩ ⟨rfl,hS,hr,hX⟩ hK;have hbT:Hid (b=true):=ab (HBo.out.2 (by
     have h1:=DE (f:=fun p q=>bi (onB p q x y)) (fun _ _=>(qI _).1) hsuf;rw[oV]at h1;omega))
    have HM:=ab ((MarksP.nil w3.heap.size w3.heap.size X).more (D:=D) hD hD hK);have hsX:=(Array.getElem?_eq_some_iff.1 hK).1;clear hS hK hsuf HBo
    gi_wp2
    refine HM.out.leaves (by omega) fun W' hW'=>?_;have hcell:=(hW'.cell (p:=⟨w.heap.size,0,none⟩) (by simp;omega)).trans hr;exact⟨.bool true,by simp[results,Tryz.results57,go_sem,hcell],by rw[hbT.out],hX.trans (hW'.mono (by omega))⟩
 · have PM1:=ab fun w h=>PM.out false (by simp only[Bool.false_eq_true,false_iff];exact hok) w h;have hbF:b=false:=by
    cases ee:b with
    | false=>rfl
    | true=>exact absurd ⟨(HB.out.1 ee).1,(HB.out.1 ee).2.1⟩ hok
   subst hbF;clear hok HB PM
   gi_wp2_with (first
    | (refine ⟨trivial,?_⟩
       gi_at_call 86
       refine(callsIn_wide.2 (PM1.out _ (HG.out.keep B2.out))).mono ?_;rintro e w2 ⟨rfl,b2⟩;obtain⟨r0,q0,c0,c1⟩:=rc;replace q0:=ac b2 r0 q0;replace r0:=aa b2 r0;have B3:=ab (ae B2.out b2))
    | fail)
   exact⟨.bool false,by simp[results,Tryz.results57,go_sem,ay r0],rfl,B3.out.setCell (p:=⟨w.heap.size,0,none⟩) (by simp) _⟩
end Go.Proofs.YtbnlhdnnenahfaaGreatDoor
namespace Go.Proofs.YtbnlhdnnenahfaaGreatDoor
open Go.RowKit
def BoxS (r:Nat)(a1 a2 b1 b2:Int)(X:World):Prop :=
 X.cell? ⟨r,0,none⟩=some (.int .i64 a1)/\X.cell? ⟨r,1,none⟩=some (.int .i64 a2)/\X.cell? ⟨r+1,0,none⟩=some (.int .i64 b1)/\X.cell? ⟨r+1,1,none⟩=some (.int .i64 b2) /\
 X.frozen? ⟨r,0,none⟩=false/\X.frozen? ⟨r,1,none⟩=false/\X.frozen? ⟨r+1,0,none⟩=false/\X.frozen? ⟨r+1,1,none⟩=false
theorem BoxS.keep {r:Nat}{a1 a2 b1 b2:Int}{X Y:World}(h:BoxS r a1 a2 b1 b2 X)(hb:Below X.heap.size X Y):BoxS r a1 a2 b1 b2 Y :=
 ⟨aa hb h.1,aa hb h.2.1,aa hb h.2.2.1,aa hb h.2.2.2.1,ac hb h.1 h.2.2.2.2.1,ac hb h.2.1 h.2.2.2.2.2.1,ac hb h.2.2.1 h.2.2.2.2.2.2.1,ac hb h.2.2.2.1 h.2.2.2.2.2.2.2⟩
theorem zI (s:Value)(G:List (List (Int×Int)))(hn:G.length<=1000000)(hl:∀L∈G,L.length<=1000000)(w:World)(hG:RingsL w s G) :
 Calls Tryz.prog 28 #[s] w fun e w'=>(∃lo hi:Int×Int,e=.returned (.tuple #[.agg #[.int .i64 lo.1,.int .i64 lo.2],.agg #[.int .i64 hi.1,.int .i64 hi.2]])/\BoxT G lo hi)/\Below w.heap.size w w':=by
 have PC:=ab fun w h=>lj s G hn hl w h;have HG:=ab hG;obtain⟨p,cap,hs,-,hc⟩:=hG;obtain⟨m,em⟩:∃m,G.length=m:=⟨_,rfl⟩
 have EM:=ab em;rw[em]at hs;subst hs;have HC:=ab hc;clear em hc;have B2:=ab (ae (ag w (.cells #[.int .i64 0,.int .i64 0] 26)) (ag _ (.cells #[.int .i64 0,.int .i64 0] 26)));have S2:Hid (BoxS w.heap.size 0 0 0 0 ((w.alloc (.cells #[.int .i64 0,.int .i64 0] 26)).alloc (.cells #[.int .i64 0,.int .i64 0] 26))):=ab ⟨by go_simp,by go_simp,by go_simp,by go_simp,by go_simp,by go_simp,by go_simp,by go_simp⟩;have PC2:=ab (PC.out _ (HG.out.keep B2.out));clear PC HG;by_cases hok:bv G
 · have OK:=ab (bI.1 hok);have PC3:=ab (PC2.out.mono fun e w' ⟨⟨t,he,ht⟩,hb⟩=>(⟨by rw[he,(bV ht).2 hok],hb⟩:e=Ending.returned (.int .i64 0)/\_));have hm0:0<m:=by
    have:=OK.out.2.2.1;rw[←EM.out];exact List.length_pos_iff.2 this
   have h0G:0<G.length:=by rw[EM.out];exact hm0
   have h3:=OK.out.2.2.2.1 _ (List.getElem_mem h0G);have HOK:=ab hok;clear PC2 hok
   go_enter Tryz.func28,Tryz.ntmps28
   go_wp2_with fail;refine PC3.out.mono ?_;rintro e w1 ⟨rfl,b1⟩;have B3:=ab (ae B2.out b1);obtain⟨m0,m1,n0,n1,f0,f1,f2,f3⟩:=S2.out.keep b1;clear B2 PC3 b1 S2;obtain⟨g,o,s0,rfl,x0,hR⟩:=HC.out 0 h0G;obtain⟨p0,c0,rfl,-,hc0⟩:=hR;obtain⟨g0,o0,rfl,y0,y1⟩:=hc0 0 (by omega);have hb1:w.heap.size+1<w1.heap.size:=World.block_lt_of_cell? _ _ n0;have hgb:g<w.heap.size:=World.block_lt_of_cell? _ _ x0;have hg0b:g0<w.heap.size:=World.block_lt_of_cell? _ _ y0;have kP:w.heap.size≠g/\w.heap.size+1≠g/\w.heap.size≠g0/\w.heap.size+1≠g0:=by omega
   obtain⟨k1,k2,k3,k4⟩:=kP;replace x0:=aa B3.out x0;replace y0:=aa B3.out y0;replace y1:=aa B3.out y1;simp only[Nat.zero_mul,Nat.add_zero]at x0 y0 y1;obtain⟨l0,el0⟩:∃l0,G[0].length=l0:=⟨_,rfl⟩
   have hg1:g<w1.heap.size:=by omega
   have hg2:g0<w1.heap.size:=by omega
   have I0:=ab (Bx.one' G[0][0]);have M0:Hid (G[0][0]∈G.flatten):=ab (List.mem_flatten.2 ⟨_,List.getElem_mem h0G,List.getElem_mem _⟩);obtain⟨P0,eP0⟩:∃q,G[0][0]=q:=⟨_,rfl⟩
   rw[eP0]at y0 y1 I0 M0;rw[el0]at x0 h3;have hl0:0<(l0:Int):=by omega
   clear hc0 el0 eP0;go_wp2_with fail
   go_cut [19,24]from 15 (fun _ _ wx=>BoxS w.heap.size P0.1 P0.2 P0.1 P0.2 wx/\Below w.heap.size w wx)
   case first =>
    go_big_region
    all_goals
     go_wp2;go_meet;exact⟨⟨by go_simp,by go_simp,by go_simp,by go_simp,by go_simp,by go_simp,by go_simp,by go_simp⟩,by have:=B3.out;go_grown⟩
   case rest =>
    clear x0 y0 y1 m0 m1 n0 n1 f0 f1 f2 f3;obtain⟨hS,hB0⟩:=hcut;have HS:=ab hS;have HB:=ab hB0;clear hS hB0 B3 hg1 hg2 hgb hg0b hb1 hl0 h3 k1 k2 k3 k4;go_wp2_with fail;go_loopw [27] (fun v27 wr=>∃(i:Nat) (a1 a2 b1 b2:Int),i<=m/\v27=.int .i64 (i:Int)/\Hid (BoxS w.heap.size a1 a2 b1 b2 wr)/\Hid (Bx (P0 :: (G.take i).flatten) (a1,a2) (b1,b2))/\Hid (Below w.heap.size w wr)) (fun v27 _=>m-(intOf v27).toNat)
    case atStart=>exact⟨0,P0.1,P0.2,P0.1,P0.2,by omega,rfl,HS,ab I0.out,HB⟩
    case round =>
     clear HS HB I0;obtain⟨i,a1,a2,b1,b2,hi,rfl,hS,hI,hB⟩:=hrel;by_cases him:i<m
     · have him':(i:Int)<(m:Int):=by omega
       have hiG:i<G.length:=by rw[EM.out];exact him
       obtain⟨g',o',s',e',z0,hR⟩:=HC.out i hiG;simp only[Option.some.injEq,Addr.mk.injEq,and_true]at e';obtain⟨rfl,rfl⟩:=e';obtain⟨pR,cR,rfl,-,hcR⟩:=hR;have HCR:=ab hcR;have hlen:=hl _ (List.getElem_mem hiG);have NXT:Hid ((G.take (i+1)).flatten=(G.take i).flatten++G[i]):=ab (by rw[List.take_succ_eq_append_getElem hiG,List.flatten_append,List.flatten_cons,List.flatten_nil,List.append_nil]);obtain⟨R,eR⟩:∃R,G[i]=R:=⟨_,rfl⟩
       rw[eR]at z0 HCR hlen NXT;obtain⟨l,el⟩:∃l,R.length=l:=⟨_,rfl⟩
       have EL:=ab el;rw[el]at z0 hlen;replace z0:=aa hB.out z0;clear hcR eR el;go_wp2_with fail;clear z0;go_loopw [33] (fun v33 wr=>∃(k:Nat) (a1 a2 b1 b2:Int),k<=l/\v33=.int .i64 (k:Int)/\Hid (BoxS w.heap.size a1 a2 b1 b2 wr)/\Hid (Bx (P0 :: ((G.take i).flatten++R.take k)) (a1,a2) (b1,b2))/\Hid (Below w.heap.size w wr)) (fun v33 _=>l-(intOf v33).toNat)
       case atStart=>exact⟨0,a1,a2,b1,b2,by omega,rfl,hS,ab (by rw[List.take_zero,List.append_nil];exact hI.out),hB⟩
       case round =>
        clear hS hI hB a1 a2 b1 b2;obtain⟨k,a1,a2,b1,b2,hk,rfl,hS,hI,hB⟩:=hrel;by_cases hkl:k<l
        · have hkl':(k:Int)<(l:Int):=by omega
          have hkR:k<R.length:=by rw[EL.out];exact hkl
          obtain⟨g',o',rfl,x0,x1⟩:=HCR.out k hkR;have hI2:Hid (Bx (P0 :: ((G.take i).flatten++R.take (k+1))) (min a1 R[k].1,min a2 R[k].2) (max b1 R[k].1,max b2 R[k].2)):=ab (by
           rw[List.take_succ_eq_append_getElem hkR,←List.append_assoc,←List.cons_append];exact hI.out.snoc)
          clear hI;generalize R[k].1=p1 at *;generalize R[k].2=p2 at *;replace x0:=aa hB.out x0;replace x1:=aa hB.out x1;have hal:=ag wr (.cells #[.int .i64 p1,.int .i64 p2] 26);have ix0:=rL (.int .i64 p1) (.int .i64 p2);have ix1:=rM (.int .i64 p1) (.int .i64 p2);have hS2:=ab (hS.out.keep hal);have hB2:=ab (hB.out.trans (hal.mono hB.out.size));clear hal hS;go_wp2_with fail;clear x0 x1;generalize wr.alloc (.cells #[.int .i64 p1,.int .i64 p2] 26)=wa at *;go_loopw [38] (fun v38 wr=>∃(a:Nat) (c1 c2 d1 d2:Int),a<=2/\v38=.int .i64 (a:Int)/\Hid (BoxS w.heap.size c1 c2 d1 d2 wr)/\Hid ((a=0/\c1=a1/\c2=a2/\d1=b1/\d2=b2)∨(a=1/\c1=min a1 p1/\c2=a2/\d1=max b1 p1/\d2=b2)∨(a=2/\c1=min a1 p1/\c2=min a2 p2/\d1=max b1 p1/\d2=max b2 p2))/\Hid (Below w.heap.size w wr)) (fun v38 _=>2-(intOf v38).toNat)
          case atStart=>exact⟨0,a1,a2,b1,b2,by omega,rfl,hS2,ab (.inl ⟨rfl,rfl,rfl,rfl,rfl⟩),hB2⟩
          case round =>
           clear hS2 hB hB2;obtain⟨a,c1,c2,d1,d2,ha,rfl,hS,hC,hB⟩:=hrel;rcases hC.out with⟨rfl,rfl,rfl,rfl,rfl⟩ | ⟨rfl,rfl,rfl,rfl,rfl⟩ | ⟨rfl,rfl,rfl,rfl,rfl⟩
           · clear hC;obtain⟨m0,m1,n0,n1,f0,f1,f2,f3⟩:=hS.out;clear hS;go_wp2_with fail;go_roundw
             case rel=>exact⟨1,_,_,_,_,by omega,by go_num,ab ⟨by go_simp,by go_simp,by go_simp,by go_simp,by go_simp,by go_simp,by go_simp,by go_simp⟩,ab (.inr (.inl ⟨rfl,rfl,rfl,rfl,rfl⟩)),ab (by have:=hB.out;go_grown)⟩
             case measure=>simp[intOf]
           · clear hC;obtain⟨m0,m1,n0,n1,f0,f1,f2,f3⟩:=hS.out;clear hS;go_wp2_with fail;go_roundw
             case rel=>exact⟨2,_,_,_,_,by omega,by go_num,ab ⟨by go_simp,by go_simp,by go_simp,by go_simp,by go_simp,by go_simp,by go_simp,by go_simp⟩,ab (.inr (.inr ⟨rfl,rfl,rfl,rfl,rfl⟩)),ab (by have:=hB.out;go_grown)⟩
             case measure=>simp[intOf]
           · have h22:decide (((2:Nat):Int)<2)=false:=by decide
             clear hC;go_wp2_with fail;go_roundw
             case rel=>exact⟨k+1,_,_,_,_,by omega,by go_num,hS,hI2,hB⟩
             case measure=>simp[intOf];omega
        · obtain rfl:k=l:=by omega
          have hkl':decide ((k:Int)<(k:Int))=false:=by simp
          have hI2:Hid (Bx (P0 :: (G.take (i+1)).flatten) (a1,a2) (b1,b2)):=ab (by
           rw[NXT.out];have:=hI.out;rw[←EL.out,List.take_length]at this;exact this)
          clear hI hkl;go_wp2_with fail;go_roundw
          case rel=>exact⟨i+1,a1,a2,b1,b2,by omega,by go_num,hS,hI2,hB⟩
          case measure=>simp[intOf];omega
     · obtain rfl:i=m:=by omega
       have him':decide ((i:Int)<(i:Int))=false:=by simp
       have hT:Hid (BoxT G (a1,a2) (b1,b2)):=ab (.inl ⟨HOK.out,by
        have:=hI.out;rw[←EM.out,List.take_length]at this;refine this.same fun p=>⟨fun h=>?_,fun h=>List.mem_cons_of_mem _ h⟩
        rcases List.mem_cons.1 h with rfl | h
        · exact M0.out
        · exact h⟩)
       obtain⟨r0,r1,r2,r3,f0,f1,f2,f3⟩:=hS.out;clear hI him HOK M0 hS;go_wp2_with fail
       go_big_region
       all_goals
        go_wp2_with fail;exact bodyPost_ret (v:=.tuple #[.agg #[.int .i64 a1,.int .i64 a2],.agg #[.int .i64 b1,.int .i64 b2]]) (by simp[results,Tryz.results28,go_sem,r0,r1,r2,r3]) rfl ⟨⟨(a1,a2),(b1,b2),rfl,hT.out⟩,by have:=hB.out;go_grown⟩
 · have HN:Hid (BoxT G (0,0) (0,0)):=ab (.inr ⟨hok,rfl,rfl⟩);have PC3:=ab (PC2.out.mono fun e w' ⟨⟨t,he,ht⟩,hb⟩=>(⟨⟨t,he,by simp only[bne_iff_ne,ne_eq];rw[bV ht];exact hok⟩,hb⟩:(∃t:Int,e=Ending.returned (.int .i64 t)/\(t != 0)=true)/\_));clear PC2 HC EM hn hl hok
   go_enter Tryz.func28,Tryz.ntmps28
   go_wp2_with fail;refine PC3.out.mono ?_;rintro e w1 ⟨⟨t,rfl,ht⟩,b1⟩;have B3:=ab (ae B2.out b1);obtain⟨r0,r1,r2,r3,s0',s1',s2',s3'⟩:=S2.out.keep b1;clear B2 PC3 b1 S2;go_wp2_with fail;exact bodyPost_ret (v:=.tuple #[.agg #[.int .i64 0,.int .i64 0],.agg #[.int .i64 0,.int .i64 0]]) (by simp[results,Tryz.results28,go_sem,r0,r1,r2,r3]) rfl ⟨⟨(0,0),(0,0),rfl,HN.out⟩,by have:=B3.out;go_grown⟩
end Go.Proofs.YtbnlhdnnenahfaaGreatDoor
