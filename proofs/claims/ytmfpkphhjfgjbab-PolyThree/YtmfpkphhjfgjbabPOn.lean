/-
  What On of package poly tells; in whatever memory.
-/
import Derived.Test.YtmfpkphhjfgjbabPPCheck
import Derived.Test.YtmfpkphhjfgjbabPEdges
import Derived.RangeFuncFrom
import Derived.RangeFuncCalls
import Derived.RangeFuncLeaves
import Derived.Laws.BitsAllLaws
import Derived.Handy
import Derived.Deep.QuietTactic
import Derived.Test.YtmfpkphhjfgjbabProg
import Derived.WalkSpells
import Derived.WalkLawsBesides
import Derived.BigQuiet
import Derived.PlainAid
import Derived.Deep.RegionWith
import Derived.Deep.RegionHeld3
import Derived.WalkSmall
import Derived.Deep.CutRange
import Derived.BigRegion
import Derived.OwnWalk
import Derived.Laws.OwnMore
import Derived.OneCell
import Derived.Laws.CopyOwn
import Derived.Sort.Row
import Derived.WalkKit
import Derived.OwnWalkIn
import Derived.TacticsInMore
import Derived.LoopNIn
import Derived.LoopIn
import Derived.RegionIn
import Derived.Stop.RegionWithIn
namespace Go.Proofs.Ytmfpkphhjfgjbab
open Go.RowKit Go
attribute [local go_sem] Oper.semAt_some

theorem p_edgesOf (p : Option Addr) (m cap : Nat) (w : World) :
    Calls Try.prog 12 #[.slice p m cap] w fun e w' => e = .returned (.func (.func 19) #[] #[.pointer (some ⟨w.heap.size, 0, none⟩)]) ∧ w' = w.alloc (.cells #[.slice p m cap] 26) := by
  go_enter Try.func12, Try.ntmps12
  go_wp2
  go_ret
  exact ⟨rfl, rfl⟩

theorem sumE_pre {f : Int × Int → Int × Int → Int} (h : ∀ p q, 0 ≤ f p q) {l a b : List ((Int × Int) × (Int × Int))} (e : l = a ++ b) : sumE f a ≤ sumE f l := by
  rw [e, sumE_app]
  have := sumE_nonneg h b
  omega

set_option maxRecDepth 100000 in
set_option maxHeartbeats 8000000 in
theorem p_on (s : Value) (G : List (List (Int × Int))) (x y : Int) (b : Bool) (hb : b = true ↔ OnT G x y) (hn : G.length ≤ 1000000) (hl : ∀ L ∈ G, L.length ≤ 1000000) (w : World) (hG : RingsL w s G) :
    Calls Try.prog 6 #[s, .int .i64 x, .int .i64 y] w fun e w' => e = .returned (.bool b) ∧ Below w.heap.size w w' := by
  have HG := hidd hG
  have PM := hidd fun t ht w h => p_may s G x y t ht hn hl w h
  have HN := hidd hn
  have HL := hidd hl
  have HB := hidd hb
  obtain ⟨p, cap, hs, -, -⟩ := hG
  obtain ⟨m, em⟩ : ∃ m, G.length = m := ⟨_, rfl⟩
  rw [em] at hs
  subst hs
  clear em hn hl hb
  refine (callsIn_wide (n := 4)).1 ?_
  refine callsIn_of_wp_marks Try.func6 rfl trivial ?_ rfl
  simp only [Try.ntmps6, List.size_toArray, List.length_cons, List.length_nil, Nat.reduceAdd, Nat.reduceSub, Array.replicate_succ, Array.replicate_zero, List.push_toArray, List.append_toArray, List.nil_append, List.cons_append]
  have B2 := hidd (belowT (allocB w (.cells #[.bool false] 4)) (allocB _ (.cells #[.int .i64 x, .int .i64 y] 22)))
  have rc : ((w.alloc (.cells #[.bool false] 4)).alloc (.cells #[.int .i64 x, .int .i64 y] 22)).cell? ⟨w.heap.size, 0, none⟩ = some (.bool false) ∧ ((w.alloc (.cells #[.bool false] 4)).alloc (.cells #[.int .i64 x, .int .i64 y] 22)).frozen? ⟨w.heap.size, 0, none⟩ = false ∧
      ((w.alloc (.cells #[.bool false] 4)).alloc (.cells #[.int .i64 x, .int .i64 y] 22)).cell? ⟨w.heap.size + 1, 0, none⟩ = some (.int .i64 x) ∧ ((w.alloc (.cells #[.bool false] 4)).alloc (.cells #[.int .i64 x, .int .i64 y] 22)).cell? ⟨w.heap.size + 1, 1, none⟩ = some (.int .i64 y) := ⟨by go_simp, by go_simp, by go_simp, by go_simp⟩
  by_cases hok : Okay G ∧ ¬ Far x y
  · have PM1 := hidd fun w h => PM.out true (by simp only [true_iff]; exact hok) w h
    have HBo : Hid (b = true ↔ 0 < onG G x y) := hidd (HB.out.trans ⟨fun h => h.2.2, fun h => ⟨hok.1, hok.2, h⟩⟩)
    have HF := hidd hok.2
    have HW := hidd (okay_iff.1 hok.1).2.2.2.2
    clear hok HB PM
    gi_wp2_with (first
      | (refine ⟨trivial, ?_⟩
         gi_at_call 11
         refine (callsIn_wide.2 (PM1.out _ (HG.out.keep B2.out))).mono ?_
         rintro e w2 ⟨rfl, b2⟩
         obtain ⟨r0, q0, c0, c1⟩ := rc
         replace q0 := keepFrozen b2 r0 q0
         replace r0 := keepCell b2 r0
         replace c0 := keepCell b2 c0
         replace c1 := keepCell b2 c1
         have B3 := hidd (belowT B2.out b2)
         clear B2 PM1 b2)
      | (refine ⟨trivial, ?_⟩
         gi_at_call 12
         refine (callsIn_wide.2 (p_edgesOf p m cap w2)).mono ?_
         rintro e w3 ⟨rfl, rfl⟩)
      | fail)
    have hal := allocB w2 (.cells #[.slice p m cap] 26)
    have hE : (w2.alloc (.cells #[.slice p m cap] 26)).cell? ⟨w2.heap.size, 0, none⟩ = some (.slice p m cap) := by go_simp
    generalize w2.alloc (.cells #[.slice p m cap] 26) = w3 at *
    replace q0 := keepFrozen hal r0 q0
    replace r0 := keepCell hal r0
    replace c0 := keepCell hal c0
    replace c1 := keepCell hal c1
    have B4 := hidd (belowT B3.out hal)
    have ES := hidd (edgesOf_seq _ G HN.out HL.out HW.out w w3 HG.out B4.out _ hE)
    have hs3 : w.heap.size + 1 < w3.heap.size := World.block_lt_of_cell? _ _ c0
    clear hal hE B3
    refine rf_law rfl (by omega) (gf := 19) (pb := #[]) (lb := #[.pointer (some ⟨w2.heap.size, 0, none⟩)]) rfl trivial (enters_of Try.func19 (by kernel_rfl) rfl)
      ES.out (by omega) (fun _ => rfl)
      (fun xs X => sumE (fun p q => bi (onB p q x y)) (evals xs) = 0 ∧ Below w3.heap.size w3 X)
      (fun c xs X => c = .ret ∧ 0 < sumE (fun p q => bi (onB p q x y)) (evals xs) ∧ X.cell? ⟨w.heap.size, 0, none⟩ = some (.bool true) ∧ Below w.heap.size w X) ?hI ?hIx ⟨rfl, Below.refl _ _⟩
      (fun z a' Y => ∃ e : Nat, (Y.cell? ⟨e, 0, none⟩ = some (.int .i64 z.1.1.1) ∧ Y.cell? ⟨e, 1, none⟩ = some (.int .i64 z.1.1.2) ∧ Y.cell? ⟨e, 2, none⟩ = some (.int .i64 z.1.2.1) ∧ Y.cell? ⟨e, 3, none⟩ = some (.int .i64 z.1.2.2)) ∧
        a' = { tmps := #[.slice p m cap, .int .i64 x, .int .i64 y, undef, undef, undef, .pointer (some ⟨w.heap.size, 0, none⟩), .pointer (some ⟨w.heap.size + 1, 0, none⟩), .pointer (some ⟨e, 0, none⟩), .int .i64 x, .int .i64 y, .agg #[.int .i64 x, .int .i64 y], .slice p m cap, .agg #[.int .i64 x, .int .i64 y], .bool true, .bool false, .slice p m cap, .func (.func 19) #[] #[.pointer (some ⟨w2.heap.size, 0, none⟩)], .agg #[.int .i64 z.1.1.1, .int .i64 z.1.1.2, .int .i64 z.1.2.1, .int .i64 z.1.2.2], undef, undef, undef], defers := [] })
      ?hAx ?assign ?body ?done ?stop
    case hI => exact fun xs Y Z hs hb' => ⟨hs.1, hs.2.trans hb'⟩
    case hIx => exact fun c xs Y Z hs hb' => ⟨hs.1, hs.2.1, (hb'.cell (p := ⟨w.heap.size, 0, none⟩) (by simp; omega)).trans hs.2.2.1, hs.2.2.2.trans (hb'.mono (by omega))⟩
    case hAx =>
      rintro z a' Y Z ⟨e, ⟨k0, k1, k2, k3⟩, ha⟩ hc
      exact ⟨e, ⟨hc _ _ k0, hc _ _ k1, hc _ _ k2, hc _ _ k3⟩, ha⟩
    case assign =>
      intro l2 z Y K hs hK
      gi_wp2
      exact hK _ _ ⟨Y.heap.size, ⟨by go_simp, by go_simp, by go_simp, by go_simp⟩, rfl⟩ (allocB _ _)
    case body =>
      rintro l2 xs z a' X ⟨hS, hX⟩ ⟨e, ⟨k0, k1, k2, k3⟩, rfl⟩ hs
      have HO := hidd fun w => p_holds z.2.1 z.2.2 HF.out w
      have c0X := keepCell hX c0
      have c1X := keepCell hX c1
      have r0X := keepCell hX r0
      have q0X := keepFrozen hX r0 q0
      have hS2 : Hid (sumE (fun p q => bi (onB p q x y)) (evals (xs ++ [z])) = bi (onB z.1.1 z.1.2 x y)) := hidd (by rw [evals_snoc, sumE_snoc, hS]; omega)
      clear hS c0 c1 r0 q0
      by_cases ho : onB z.1.1 z.1.2 x y = true
      · have HO2 := hidd fun w => ((by have := HO.out w; rwa [ho] at this) : Calls Try.prog 13 #[.agg #[.int .i64 z.1.1.1, .int .i64 z.1.1.2, .int .i64 z.1.2.1, .int .i64 z.1.2.2], .agg #[.int .i64 x, .int .i64 y]] w fun e w' => e = .returned (.bool true) ∧ Below w.heap.size w w')
        have HS3 : Hid (0 < sumE (fun p q => bi (onB p q x y)) (evals (xs ++ [z]))) := hidd (by rw [hS2.out, ho]; decide)
        clear HO hS2 ho
        gi_wp2_with (first
          | (refine ⟨trivial, ?_⟩
             gi_at_call 13
             refine (CallsIn.inRound l2 (callsIn_wide.2 (HO2.out _))).mono ?_
             rintro e5 w5 ⟨rfl, b5⟩
             have r5 := keepCell b5 r0X
             have q5 := keepFrozen b5 r0X q0X)
          | fail)
        have hX5 := hX.trans (b5.mono hX.size)
        exact ⟨(High.of_below b5).setCell (p := ⟨w.heap.size, 0, none⟩) (by simp; omega) _, rfl, HS3.out, store_new r5, (B4.out.trans (hX5.mono (by omega))).setCell (p := ⟨w.heap.size, 0, none⟩) (by simp) _⟩
      · have ho' : onB z.1.1 z.1.2 x y = false := by simpa using ho
        have HO2 := hidd fun w => ((by have := HO.out w; rwa [ho'] at this) : Calls Try.prog 13 #[.agg #[.int .i64 z.1.1.1, .int .i64 z.1.1.2, .int .i64 z.1.2.1, .int .i64 z.1.2.2], .agg #[.int .i64 x, .int .i64 y]] w fun e w' => e = .returned (.bool false) ∧ Below w.heap.size w w')
        have HS3 : Hid (sumE (fun p q => bi (onB p q x y)) (evals (xs ++ [z])) = 0) := hidd (by rw [hS2.out, ho']; rfl)
        clear HO hS2 ho ho'
        gi_wp2_with (first
          | (refine ⟨trivial, ?_⟩
             gi_at_call 13
             refine (CallsIn.inRound l2 (callsIn_wide.2 (HO2.out _))).mono ?_
             rintro e5 w5 ⟨rfl, b5⟩)
          | fail)
        exact ⟨b5.mono (by have := hX.size; omega), High.of_below b5, HS3.out, hX.trans (b5.mono hX.size)⟩
    case done =>
      rintro D xs X hD hxs ⟨hS, hX⟩ hK
      have hbF : Hid (b = false) := hidd (by
        rw [hxs, sumE_on] at hS
        cases ee : b with
        | false => rfl
        | true => have := HBo.out.1 ee; omega)
      have HM := hidd ((Marks.nil w3.heap.size w3.heap.size X).more (D := D) hD hD hK)
      have r0X := keepCell hX r0
      have q0X := keepFrozen hX r0 q0
      have hsX := hX.size
      clear hS hK hxs HBo c0 c1 r0 q0
      gi_wp2
      refine (HM.out.cell (p := ⟨w.heap.size, 0, none⟩) (by simp; omega) (.bool false)).leaves (by simp; omega) fun W' hW' => ?_
      have hcell := (hW'.cell (p := ⟨w.heap.size, 0, none⟩) (by simp; omega)).trans (store_new r0X)
      exact ⟨.bool false, by simp [results, Try.results6, go_sem, hcell], by rw [hbF.out], ((B4.out.trans (hX.mono (by omega))).setCell (p := ⟨w.heap.size, 0, none⟩) (by simp) _).trans (hW'.mono (by omega))⟩
    case stop =>
      rintro D c' xs X hD ⟨suf, hsuf⟩ ⟨rfl, hS, hr, hX⟩ hK
      have hbT : Hid (b = true) := hidd (HBo.out.2 (by
        have h1 := sumE_pre (f := fun p q => bi (onB p q x y)) (fun _ _ => (bi_box _).1) hsuf
        rw [sumE_on] at h1
        omega))
      have HM := hidd ((Marks.nil w3.heap.size w3.heap.size X).more (D := D) hD hD hK)
      have hsX := (Array.getElem?_eq_some_iff.1 hK).1
      clear hS hK hsuf HBo
      gi_wp2
      refine HM.out.leaves (by omega) fun W' hW' => ?_
      have hcell := (hW'.cell (p := ⟨w.heap.size, 0, none⟩) (by simp; omega)).trans hr
      exact ⟨.bool true, by simp [results, Try.results6, go_sem, hcell], by rw [hbT.out], hX.trans (hW'.mono (by omega))⟩
  · have PM1 := hidd fun w h => PM.out false (by simp only [Bool.false_eq_true, false_iff]; exact hok) w h
    have hbF : b = false := by
      cases ee : b with
      | false => rfl
      | true => exact absurd ⟨(HB.out.1 ee).1, (HB.out.1 ee).2.1⟩ hok
    subst hbF
    clear hok HB PM
    gi_wp2_with (first
      | (refine ⟨trivial, ?_⟩
         gi_at_call 11
         refine (callsIn_wide.2 (PM1.out _ (HG.out.keep B2.out))).mono ?_
         rintro e w2 ⟨rfl, b2⟩
         obtain ⟨r0, q0, c0, c1⟩ := rc
         replace q0 := keepFrozen b2 r0 q0
         replace r0 := keepCell b2 r0
         have B3 := hidd (belowT B2.out b2))
      | fail)
    exact ⟨.bool false, by simp [results, Try.results6, go_sem, store_new r0], rfl, B3.out.setCell (p := ⟨w.heap.size, 0, none⟩) (by simp) _⟩

end Go.Proofs.Ytmfpkphhjfgjbab
