/-
  What Inside of package poly tells; in whatever memory.
-/
import Derived.Test.YtmfpkphhjfgjbabPOn
import Derived.RangeFuncFrom
import Derived.RangeFuncCalls
import Derived.RangeFuncLeaves
import Derived.Laws.BitsAllLaws
import Derived.Handy
import Derived.Deep.QuietTactic
import Derived.Test.YtmfpkphhjfgjbabProg
import Derived.WalkSpells
import Derived.WalkLawsBesides
import Derived.BigQuiet
import Derived.PlainAid
import Derived.Deep.RegionWith
import Derived.Deep.RegionHeld3
import Derived.WalkSmall
import Derived.Deep.CutRange
import Derived.BigRegion
import Derived.OwnWalk
import Derived.Laws.OwnMore
import Derived.OneCell
import Derived.Laws.CopyOwn
import Derived.Sort.Row
import Derived.WalkKit
import Derived.OwnWalkIn
import Derived.TacticsInMore
import Derived.LoopNIn
import Derived.LoopIn
import Derived.RegionIn
import Derived.Stop.RegionWithIn
namespace Go.Proofs.Ytmfpkphhjfgjbab
open Go.RowKit Go
attribute [local go_sem] Oper.semAt_some

theorem odd_turn (S : Int) : decide ((S + 1) % 2 = 1) = !decide (S % 2 = 1) := by
  by_cases h : S % 2 = 1
  · rw [decide_eq_true h, decide_eq_false (by omega)]; rfl
  · rw [decide_eq_false h, decide_eq_true (by omega)]; rfl

/-- What Inside's own blocks hold between two edges: its answer so far, the point, whether it is inside. -/
def InS (r v : Nat) (x y : Int) (t : Bool) (X : World) : Prop :=
  X.cell? ⟨r, 0, none⟩ = some (.bool false) ∧ X.frozen? ⟨r, 0, none⟩ = false ∧ X.cell? ⟨r + 1, 0, none⟩ = some (.int .i64 x) ∧ X.cell? ⟨r + 1, 1, none⟩ = some (.int .i64 y) ∧ X.cell? ⟨v, 0, none⟩ = some (.bool t) ∧ X.frozen? ⟨v, 0, none⟩ = false

theorem InS.low {r v B : Nat} {x y : Int} {t : Bool} {X Y : World} (h : InS r v x y t X) (hb : Below B X Y) (h1 : v < B) (h2 : r + 1 < v) : InS r v x y t Y :=
  ⟨(hb.cell (p := ⟨r, 0, none⟩) (by simp; omega)).trans h.1, (hb.frozen (p := ⟨r, 0, none⟩) (by simp; omega)).trans h.2.1, (hb.cell (p := ⟨r + 1, 0, none⟩) (by simp; omega)).trans h.2.2.1, (hb.cell (p := ⟨r + 1, 1, none⟩) (by simp; omega)).trans h.2.2.2.1, (hb.cell (p := ⟨v, 0, none⟩) (by simp; omega)).trans h.2.2.2.2.1, (hb.frozen (p := ⟨v, 0, none⟩) (by simp; omega)).trans h.2.2.2.2.2⟩

theorem InS.put {r v : Nat} {x y : Int} {t : Bool} {X : World} (h : InS r v x y t X) (u : Bool) (h2 : r + 1 < v) : InS r v x y u (X.setCell ⟨v, 0, none⟩ (.bool u)) :=
  ⟨store_keep h.1 (by intro e; injection e; omega), by rw [World.frozen?_setCell]; exact h.2.1, store_keep h.2.2.1 (by intro e; injection e; omega), store_keep h.2.2.2.1 (by intro e; injection e; omega), store_new h.2.2.2.2.1, by rw [World.frozen?_setCell]; exact h.2.2.2.2.2⟩

set_option maxRecDepth 100000 in
set_option maxHeartbeats 8000000 in
theorem p_inside (s : Value) (G : List (List (Int × Int))) (x y : Int) (b : Bool) (hb : b = true ↔ InT G x y) (hn : G.length ≤ 1000000) (hl : ∀ L ∈ G, L.length ≤ 1000000) (w : World) (hG : RingsL w s G) :
    Calls Try.prog 5 #[s, .int .i64 x, .int .i64 y] w fun e w' => e = .returned (.bool b) ∧ Below w.heap.size w w' := by
  have HG := hidd hG
  have PM := hidd fun t ht w h => p_may s G x y t ht hn hl w h
  have HN := hidd hn
  have HL := hidd hl
  have HB := hidd hb
  obtain ⟨p, cap, hs, -, -⟩ := hG
  obtain ⟨m, em⟩ : ∃ m, G.length = m := ⟨_, rfl⟩
  rw [em] at hs
  subst hs
  clear em hn hl hb
  refine (callsIn_wide (n := 4)).1 ?_
  refine callsIn_of_wp_marks Try.func5 rfl trivial ?_ rfl
  simp only [Try.ntmps5, List.size_toArray, List.length_cons, List.length_nil, Nat.reduceAdd, Nat.reduceSub, Array.replicate_succ, Array.replicate_zero, List.push_toArray, List.append_toArray, List.nil_append, List.cons_append]
  have B2 := hidd (belowT (allocB w (.cells #[.bool false] 4)) (allocB _ (.cells #[.int .i64 x, .int .i64 y] 22)))
  have rc : ((w.alloc (.cells #[.bool false] 4)).alloc (.cells #[.int .i64 x, .int .i64 y] 22)).cell? ⟨w.heap.size, 0, none⟩ = some (.bool false) ∧ ((w.alloc (.cells #[.bool false] 4)).alloc (.cells #[.int .i64 x, .int .i64 y] 22)).frozen? ⟨w.heap.size, 0, none⟩ = false ∧
      ((w.alloc (.cells #[.bool false] 4)).alloc (.cells #[.int .i64 x, .int .i64 y] 22)).cell? ⟨w.heap.size + 1, 0, none⟩ = some (.int .i64 x) ∧ ((w.alloc (.cells #[.bool false] 4)).alloc (.cells #[.int .i64 x, .int .i64 y] 22)).cell? ⟨w.heap.size + 1, 1, none⟩ = some (.int .i64 y) := ⟨by go_simp, by go_simp, by go_simp, by go_simp⟩
  by_cases hok : Okay G ∧ ¬ Far x y
  · have PM1 := hidd fun w h => PM.out true (by simp only [true_iff]; exact hok) w h
    have HBo : Hid (b = true ↔ (0 < onG G x y ∨ crG G x y % 2 = 1)) := hidd (HB.out.trans ⟨fun h => h.2.2, fun h => ⟨hok.1, hok.2, h⟩⟩)
    have HF := hidd hok.2
    have HW := hidd (okay_iff.1 hok.1).2.2.2.2
    clear hok HB PM
    gi_wp2_with (first
      | (refine ⟨trivial, ?_⟩
         gi_at_call 11
         refine (callsIn_wide.2 (PM1.out _ (HG.out.keep B2.out))).mono ?_
         rintro e w2 ⟨rfl, b2⟩
         obtain ⟨r0, q0, c0, c1⟩ := rc
         replace q0 := keepFrozen b2 r0 q0
         replace r0 := keepCell b2 r0
         replace c0 := keepCell b2 c0
         replace c1 := keepCell b2 c1
         have B3 := hidd (belowT B2.out b2)
         clear B2 PM1 b2)
      | (refine ⟨trivial, ?_⟩
         gi_at_call 12
         refine (callsIn_wide.2 (p_edgesOf p m cap _)).mono ?_
         rintro e w3 ⟨rfl, rfl⟩)
      | fail)
    have hs2 : w.heap.size + 2 ≤ w2.heap.size := World.block_lt_of_cell? _ _ c0
    have hal0 := allocB w2 (.cells #[.bool false] 4)
    have v0 : (w2.alloc (.cells #[.bool false] 4)).cell? ⟨w2.heap.size, 0, none⟩ = some (.bool false) := by go_simp
    have v1 : (w2.alloc (.cells #[.bool false] 4)).frozen? ⟨w2.heap.size, 0, none⟩ = false := by go_simp
    have hal1 := allocB (w2.alloc (.cells #[.bool false] 4)) (.cells #[.slice p m cap] 26)
    have hE : ((w2.alloc (.cells #[.bool false] 4)).alloc (.cells #[.slice p m cap] 26)).cell? ⟨w2.heap.size + 1, 0, none⟩ = some (.slice p m cap) := by go_simp
    replace v1 := keepFrozen hal1 v0 v1
    replace v0 := keepCell hal1 v0
    have hal := belowT hal0 hal1
    clear hal0 hal1
    generalize (w2.alloc (.cells #[.bool false] 4)).alloc (.cells #[.slice p m cap] 26) = w3 at *
    replace q0 := keepFrozen hal r0 q0
    replace r0 := keepCell hal r0
    replace c0 := keepCell hal c0
    replace c1 := keepCell hal c1
    have B4 := hidd (belowT B3.out hal)
    have ES := hidd (edgesOf_seq _ G HN.out HL.out HW.out w w3 HG.out B4.out _ hE)
    have hs3 : w2.heap.size + 1 < w3.heap.size := World.block_lt_of_cell? _ _ hE
    clear hal hE B3
    refine rf_law rfl (by omega) (gf := 19) (pb := #[]) (lb := #[.pointer (some ⟨w2.heap.size + 1, 0, none⟩)]) rfl trivial (enters_of Try.func19 (by kernel_rfl) rfl)
      ES.out (by omega) (fun _ => rfl)
      (fun xs X => (sumE (fun p q => bi (onB p q x y)) (evals xs) = 0 ∧ InS w.heap.size w2.heap.size x y (decide (sumE (fun p q => bi (crB p q x y)) (evals xs) % 2 = 1)) X) ∧ Below w.heap.size w X)
      (fun c xs X => c = .ret ∧ 0 < sumE (fun p q => bi (onB p q x y)) (evals xs) ∧ X.cell? ⟨w.heap.size, 0, none⟩ = some (.bool true) ∧ Below w.heap.size w X) ?hI ?hIx ⟨⟨rfl, r0, q0, c0, c1, v0, v1⟩, B4.out⟩
      (fun z a' Y => ∃ e : Nat, (Y.cell? ⟨e, 0, none⟩ = some (.int .i64 z.1.1.1) ∧ Y.cell? ⟨e, 1, none⟩ = some (.int .i64 z.1.1.2) ∧ Y.cell? ⟨e, 2, none⟩ = some (.int .i64 z.1.2.1) ∧ Y.cell? ⟨e, 3, none⟩ = some (.int .i64 z.1.2.2)) ∧
        a' = { tmps := #[.slice p m cap, .int .i64 x, .int .i64 y, undef, undef, undef, .pointer (some ⟨w.heap.size, 0, none⟩), .pointer (some ⟨w.heap.size + 1, 0, none⟩), .pointer (some ⟨w2.heap.size, 0, none⟩), .pointer (some ⟨e, 0, none⟩), .int .i64 x, .int .i64 y, .agg #[.int .i64 x, .int .i64 y], .slice p m cap, .agg #[.int .i64 x, .int .i64 y], .bool true, .bool false, .slice p m cap, .func (.func 19) #[] #[.pointer (some ⟨w2.heap.size + 1, 0, none⟩)], .agg #[.int .i64 z.1.1.1, .int .i64 z.1.1.2, .int .i64 z.1.2.1, .int .i64 z.1.2.2], undef, undef, undef, undef, undef, undef, undef, undef, undef], defers := [] })
      ?hAx ?assign ?body ?done ?stop
    case hI => exact fun xs Y Z hs hb' => ⟨⟨hs.1.1, hs.1.2.low hb' (by omega) (by omega)⟩, hs.2.trans (hb'.mono (by omega))⟩
    case hIx => exact fun c xs Y Z hs hb' => ⟨hs.1, hs.2.1, (hb'.cell (p := ⟨w.heap.size, 0, none⟩) (by simp; omega)).trans hs.2.2.1, hs.2.2.2.trans (hb'.mono (by omega))⟩
    case hAx =>
      rintro z a' Y Z ⟨e, ⟨k0, k1, k2, k3⟩, ha⟩ hc
      exact ⟨e, ⟨hc _ _ k0, hc _ _ k1, hc _ _ k2, hc _ _ k3⟩, ha⟩
    case assign =>
      intro l2 z Y K hs hK
      gi_wp2
      exact hK _ _ ⟨Y.heap.size, ⟨by go_simp, by go_simp, by go_simp, by go_simp⟩, rfl⟩ (allocB _ _)
    case body =>
      clear r0 q0 c0 c1 v0 v1
      rintro l2 xs z a' X ⟨⟨hS, hI⟩, hX⟩ ⟨e, ⟨k0, k1, k2, k3⟩, rfl⟩ hs
      have HI := hidd hI
      have HO := hidd fun w => p_holds z.2.1 z.2.2 HF.out w
      have HC := hidd fun w => p_right z.2.1 z.2.2 HF.out w
      have hS2 : Hid (sumE (fun p q => bi (onB p q x y)) (evals (xs ++ [z])) = bi (onB z.1.1 z.1.2 x y)) := hidd (by rw [evals_snoc, sumE_snoc, hS]; omega)
      have hC2 : Hid (sumE (fun p q => bi (crB p q x y)) (evals (xs ++ [z])) = sumE (fun p q => bi (crB p q x y)) (evals xs) + bi (crB z.1.1 z.1.2 x y)) := hidd (by rw [evals_snoc, sumE_snoc])
      obtain ⟨r0X, q0X, c0X, c1X, v0X, v1X⟩ := hI
      clear hS
      by_cases ho : onB z.1.1 z.1.2 x y = true
      · have HO2 := hidd fun w => ((by have := HO.out w; rwa [ho] at this) : Calls Try.prog 13 #[.agg #[.int .i64 z.1.1.1, .int .i64 z.1.1.2, .int .i64 z.1.2.1, .int .i64 z.1.2.2], .agg #[.int .i64 x, .int .i64 y]] w fun e w' => e = .returned (.bool true) ∧ Below w.heap.size w w')
        have HS3 : Hid (0 < sumE (fun p q => bi (onB p q x y)) (evals (xs ++ [z]))) := hidd (by rw [hS2.out, ho]; decide)
        clear HO HC hS2 hC2 ho HI
        gi_wp2_with (first
          | (refine ⟨trivial, ?_⟩
             gi_at_call 13
             refine (CallsIn.inRound l2 (callsIn_wide.2 (HO2.out _))).mono ?_
             rintro e5 w5 ⟨rfl, b5⟩
             have r5 := keepCell b5 r0X
             have q5 := keepFrozen b5 r0X q0X)
          | fail)
        exact ⟨(High.of_below b5).setCell (p := ⟨w.heap.size, 0, none⟩) (by simp; omega) _, rfl, HS3.out, store_new r5, (hX.trans (b5.mono hX.size)).setCell (p := ⟨w.heap.size, 0, none⟩) (by simp) _⟩
      · have ho' : onB z.1.1 z.1.2 x y = false := by simpa using ho
        have HO2 := hidd fun w => ((by have := HO.out w; rwa [ho'] at this) : Calls Try.prog 13 #[.agg #[.int .i64 z.1.1.1, .int .i64 z.1.1.2, .int .i64 z.1.2.1, .int .i64 z.1.2.2], .agg #[.int .i64 x, .int .i64 y]] w fun e w' => e = .returned (.bool false) ∧ Below w.heap.size w w')
        have HS3 : Hid (sumE (fun p q => bi (onB p q x y)) (evals (xs ++ [z])) = 0) := hidd (by rw [hS2.out, ho']; rfl)
        clear HO hS2 ho ho'
        by_cases hc : crB z.1.1 z.1.2 x y = true
        · have HC2 := hidd fun w => ((by have := HC.out w; rwa [hc] at this) : Calls Try.prog 14 #[.agg #[.int .i64 z.1.1.1, .int .i64 z.1.1.2, .int .i64 z.1.2.1, .int .i64 z.1.2.2], .agg #[.int .i64 x, .int .i64 y]] w fun e w' => e = .returned (.bool true) ∧ Below w.heap.size w w')
          have HV : Hid (decide (sumE (fun p q => bi (crB p q x y)) (evals (xs ++ [z])) % 2 = 1) = !decide (sumE (fun p q => bi (crB p q x y)) (evals xs) % 2 = 1)) := hidd (by rw [hC2.out, hc]; exact odd_turn _)
          clear HC hC2 hc
          generalize decide (sumE (fun p q => bi (crB p q x y)) (evals xs) % 2 = 1) = v at *
          gi_wp2_with (first
            | (refine ⟨trivial, ?_⟩
               gi_at_call 13
               refine (CallsIn.inRound l2 (callsIn_wide.2 (HO2.out _))).mono ?_
               rintro e5 w5 ⟨rfl, b5⟩
               replace k0 := keepCell b5 k0
               replace k1 := keepCell b5 k1
               replace k2 := keepCell b5 k2
               replace k3 := keepCell b5 k3
               replace c0X := keepCell b5 c0X
               replace c1X := keepCell b5 c1X
               replace v1X := keepFrozen b5 v0X v1X
               replace v0X := keepCell b5 v0X
               clear HO2)
            | (refine ⟨trivial, ?_⟩
               gi_at_call 14
               refine (CallsIn.inRound l2 (callsIn_wide.2 (HC2.out _))).mono ?_
               rintro e6 w6 ⟨rfl, b6⟩
               replace v1X := keepFrozen b6 v0X v1X
               replace v0X := keepCell b6 v0X
               clear HC2)
            | fail)
          have hb6 := belowT b5 b6
          have hI6 := HI.out.low hb6 (by have := hX.size; omega) (by omega)
          have hI7 := hI6.put (!v) (by omega)
          exact ⟨(hb6.mono hX.size).setCell (p := ⟨w2.heap.size, 0, none⟩) (by simp; omega) _, (High.of_below hb6).setCell (p := ⟨w2.heap.size, 0, none⟩) (by simp; omega) _, ⟨HS3.out, by rw [HV.out]; exact hI7⟩, (hX.trans (hb6.mono hX.size)).setCell (p := ⟨w2.heap.size, 0, none⟩) (by simp; omega) _⟩
        · have hc' : crB z.1.1 z.1.2 x y = false := by simpa using hc
          have HC2 := hidd fun w => ((by have := HC.out w; rwa [hc'] at this) : Calls Try.prog 14 #[.agg #[.int .i64 z.1.1.1, .int .i64 z.1.1.2, .int .i64 z.1.2.1, .int .i64 z.1.2.2], .agg #[.int .i64 x, .int .i64 y]] w fun e w' => e = .returned (.bool false) ∧ Below w.heap.size w w')
          have HV : Hid (decide (sumE (fun p q => bi (crB p q x y)) (evals (xs ++ [z])) % 2 = 1) = decide (sumE (fun p q => bi (crB p q x y)) (evals xs) % 2 = 1)) := hidd (by
            have e0 : sumE (fun p q => bi (crB p q x y)) (evals xs) + bi false = sumE (fun p q => bi (crB p q x y)) (evals xs) := by show _ + 0 = _; omega
            rw [hC2.out, hc', e0])
          clear HC hC2 hc hc'
          generalize decide (sumE (fun p q => bi (crB p q x y)) (evals xs) % 2 = 1) = v at *
          gi_wp2_with (first
            | (refine ⟨trivial, ?_⟩
               gi_at_call 13
               refine (CallsIn.inRound l2 (callsIn_wide.2 (HO2.out _))).mono ?_
               rintro e5 w5 ⟨rfl, b5⟩
               replace k0 := keepCell b5 k0
               replace k1 := keepCell b5 k1
               replace k2 := keepCell b5 k2
               replace k3 := keepCell b5 k3
               replace c0X := keepCell b5 c0X
               replace c1X := keepCell b5 c1X
               clear HO2)
            | (refine ⟨trivial, ?_⟩
               gi_at_call 14
               refine (CallsIn.inRound l2 (callsIn_wide.2 (HC2.out _))).mono ?_
               rintro e6 w6 ⟨rfl, b6⟩
               clear HC2)
            | fail)
          have hb6 := belowT b5 b6
          have hI6 := HI.out.low hb6 (by have := hX.size; omega) (by omega)
          exact ⟨hb6.mono hX.size, High.of_below hb6, ⟨HS3.out, by rw [HV.out]; exact hI6⟩, hX.trans (hb6.mono hX.size)⟩
    case done =>
      rintro D xs X hD hxs ⟨⟨hS, hI⟩, hX⟩ hK
      have hbF : Hid (decide (sumE (fun p q => bi (crB p q x y)) (evals xs) % 2 = 1) = b) := hidd (by
        rw [hxs] at hS ⊢
        rw [sumE_on] at hS
        rw [sumE_cr]
        have := HBo.out
        cases b
        · simp only [Bool.false_eq_true, false_iff] at this
          exact decide_eq_false (by omega)
        · simp only [true_iff] at this
          exact decide_eq_true (by omega))
      rw [hbF.out] at hI
      have HM := hidd ((Marks.nil w3.heap.size w3.heap.size X).more (D := D) hD hD hK)
      have hsX := (Array.getElem?_eq_some_iff.1 hK).1
      obtain ⟨r0X, q0X, -, -, v0X, -⟩ := hI
      clear hS hK hxs HBo hbF c0 c1 r0 q0 v0 v1
      gi_wp2
      refine (HM.out.cell (p := ⟨w.heap.size, 0, none⟩) (by simp; omega) (.bool b)).leaves (by simp; omega) fun W' hW' => ?_
      have hcell := (hW'.cell (p := ⟨w.heap.size, 0, none⟩) (by simp; omega)).trans (store_new r0X)
      exact ⟨.bool b, by simp [results, Try.results5, go_sem, hcell], rfl, (hX.setCell (p := ⟨w.heap.size, 0, none⟩) (by simp) _).trans (hW'.mono (by omega))⟩
    case stop =>
      rintro D c' xs X hD ⟨suf, hsuf⟩ ⟨rfl, hS, hr, hX⟩ hK
      have hbT : Hid (b = true) := hidd (HBo.out.2 (by
        have h1 := sumE_pre (f := fun p q => bi (onB p q x y)) (fun _ _ => (bi_box _).1) hsuf
        rw [sumE_on] at h1
        omega))
      have HM := hidd ((Marks.nil w3.heap.size w3.heap.size X).more (D := D) hD hD hK)
      have hsX := (Array.getElem?_eq_some_iff.1 hK).1
      clear hS hK hsuf HBo
      gi_wp2
      refine HM.out.leaves (by omega) fun W' hW' => ?_
      have hcell := (hW'.cell (p := ⟨w.heap.size, 0, none⟩) (by simp; omega)).trans hr
      exact ⟨.bool true, by simp [results, Try.results5, go_sem, hcell], by rw [hbT.out], hX.trans (hW'.mono (by omega))⟩
  · have PM1 := hidd fun w h => PM.out false (by simp only [Bool.false_eq_true, false_iff]; exact hok) w h
    have hbF : b = false := by
      cases ee : b with
      | false => rfl
      | true => exact absurd ⟨(HB.out.1 ee).1, (HB.out.1 ee).2.1⟩ hok
    subst hbF
    clear hok HB PM
    gi_wp2_with (first
      | (refine ⟨trivial, ?_⟩
         gi_at_call 11
         refine (callsIn_wide.2 (PM1.out _ (HG.out.keep B2.out))).mono ?_
         rintro e w2 ⟨rfl, b2⟩
         obtain ⟨r0, q0, c0, c1⟩ := rc
         replace q0 := keepFrozen b2 r0 q0
         replace r0 := keepCell b2 r0
         have B3 := hidd (belowT B2.out b2))
      | fail)
    exact ⟨.bool false, by simp [results, Try.results5, go_sem, store_new r0], rfl, B3.out.setCell (p := ⟨w.heap.size, 0, none⟩) (by simp) _⟩

end Go.Proofs.Ytmfpkphhjfgjbab
