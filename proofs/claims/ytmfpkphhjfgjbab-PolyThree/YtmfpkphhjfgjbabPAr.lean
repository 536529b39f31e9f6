/-
  What Area2 of package poly tells; in whatever memory.
-/
import Derived.Test.YtmfpkphhjfgjbabPolyGeo
import Derived.Test.YtmfpkphhjfgjbabPPCheck
import Derived.Test.YtmfpkphhjfgjbabPEdges
import Derived.RangeFuncFrom
import Derived.RangeFuncCalls
import Derived.RangeFuncLeaves
import Derived.Laws.BitsAllLaws
import Derived.Handy
import Derived.Deep.QuietTactic
import Derived.Test.YtmfpkphhjfgjbabProg
import Derived.WalkSpells
import Derived.WalkLawsBesides
import Derived.BigQuiet
import Derived.PlainAid
import Derived.Deep.RegionWith
import Derived.Deep.RegionHeld3
import Derived.WalkSmall
import Derived.Deep.CutRange
import Derived.BigRegion
import Derived.OwnWalk
import Derived.Laws.OwnMore
import Derived.OneCell
import Derived.Laws.CopyOwn
import Derived.Sort.Row
import Derived.WalkKit
import Derived.OwnWalkIn
import Derived.TacticsInMore
import Derived.LoopNIn
import Derived.LoopIn
import Derived.RegionIn
import Derived.Stop.RegionWithIn
namespace Go.Proofs.Ytmfpkphhjfgjbab
open Go.RowKit Go
attribute [local go_sem] Oper.semAt_some

theorem turn_zero {p q : Int × Int} (hp : InWo p) (hq : InWo q) (w : World) :
    Calls Try.prog 10 #[.agg #[.int .i64 p.1, .int .i64 p.2, .int .i64 q.1, .int .i64 q.2], .agg #[.int .i64 0, .int .i64 0]] w fun e w' => e = .returned (.int .i64 (ar2 p q)) ∧ Below w.heap.size w w' := by
  have h := p_turn (x := 0) (y := 0) hp hq (by unfold Far; omega) w
  have e : crs p q 0 0 = ar2 p q := by unfold crs ar2; grind
  rwa [e] at h

theorem ar2_box {p q : Int × Int} (hp : InWo p) (hq : InWo q) : -1152921504606846976 ≤ ar2 p q ∧ ar2 p q ≤ 1152921504606846976 := by
  unfold InWo at hp hq
  have h1 := prod_world hp.1 hp.2.1 hq.2.2.1 hq.2.2.2
  have h2 := prod_world hq.1 hq.2.1 hp.2.2.1 hp.2.2.2
  unfold ar2
  omega

theorem wrap_add (S A : Int) : wrap64 (wrap64 S + A) = wrap64 (S + A) := by unfold wrap64; omega

set_option maxRecDepth 100000 in
set_option maxHeartbeats 8000000 in
theorem p_area2 (s : Value) (R : List (Int × Int)) (hl : R.length ≤ 1000000) (w : World) (h : RingL w s R) :
    Calls Try.prog 4 #[s] w fun e w' => (∃ z, e = .returned (.int .i64 z) ∧ AreaT R z) ∧ Below w.heap.size w w' := by
  have HR := hidd h
  obtain ⟨p, cap, hs, -, -⟩ := h
  obtain ⟨l, el⟩ : ∃ l, R.length = l := ⟨_, rfl⟩
  have EL := hidd el
  rw [el] at hs hl
  subst hs
  have hal := allocB w (.cells #[.slice p l cap] 23)
  have hOne : RingsL (w.alloc (.cells #[.slice p l cap] 23)) (.slice (some ⟨w.heap.size, 0, none⟩) 1 1) [R] := ⟨_, _, rfl, Nat.le_refl _, fun j hj => by
    obtain rfl : j = 0 := by simp at hj; omega
    exact ⟨w.heap.size, 0, .slice p l cap, rfl, by go_simp, HR.out.keep hal⟩⟩
  have PC := hidd (p_check _ [R] (by simp) (by simp; omega) _ hOne)
  have B1 := hidd hal
  clear el hal hOne
  refine (callsIn_wide (n := 3)).1 ?_
  refine callsIn_of_wp_marks Try.func4 rfl trivial ?_ rfl
  simp only [Try.ntmps4, List.size_toArray, List.length_cons, List.length_nil, Nat.reduceAdd, Nat.reduceSub, Array.replicate_succ, Array.replicate_zero, List.push_toArray, List.append_toArray, List.nil_append, List.cons_append]
  by_cases hok : Okay [R]
  · have PC2 := hidd (PC.out.mono fun e w' ⟨⟨t, he, ht⟩, hb⟩ => (⟨by rw [he, (chk_zero ht).2 hok], hb⟩ : e = Ending.returned (.int .i64 0) ∧ _))
    have HOK := hidd hok
    have HW := hidd (okay_one.1 hok).2.2
    clear hok PC
    gi_wp2_with (first
      | (refine ⟨trivial, ?_⟩
         gi_at_call 8
         refine (callsIn_wide.2 PC2.out).mono ?_
         rintro e w2 ⟨rfl, b2⟩
         have B2 := hidd (belowT B1.out b2)
         clear PC2 b2)
      | fail)
    have hal := allocB w2 (.cells #[.int .i64 0] 2)
    have v0 : (w2.alloc (.cells #[.int .i64 0] 2)).cell? ⟨w2.heap.size, 0, none⟩ = some (.int .i64 0) := by go_simp
    have v1 : (w2.alloc (.cells #[.int .i64 0] 2)).frozen? ⟨w2.heap.size, 0, none⟩ = false := by go_simp
    have hs2 := B2.out.size
    generalize w2.alloc (.cells #[.int .i64 0] 2) = w3 at *
    have B3 := hidd (belowT B2.out hal)
    have ES := hidd (edges_seq (.slice p l cap) R (by rw [EL.out]; exact hl) HW.out w w3 HR.out B3.out)
    have hs3 : w2.heap.size < w3.heap.size := World.block_lt_of_cell? _ _ v0
    clear hal
    refine rf_law rfl (by omega) (gf := 9) (pb := #[.slice p l cap]) (lb := #[]) rfl trivial (enters_of Try.func9 (by kernel_rfl) rfl)
      ES.out (by omega) (fun _ => rfl)
      (fun xs X => (X.cell? ⟨w2.heap.size, 0, none⟩ = some (.int .i64 (wrap64 (sumE ar2 (evals xs)))) ∧ X.frozen? ⟨w2.heap.size, 0, none⟩ = false) ∧ Below w.heap.size w X)
      (fun _ _ _ => False) ?hI ?hIx ⟨⟨by rw [show wrap64 (sumE ar2 (evals [])) = 0 by show wrap64 0 = 0; unfold wrap64; omega]; exact v0, v1⟩, B3.out⟩
      (fun z a' Y => ∃ e : Nat, (Y.cell? ⟨e, 0, none⟩ = some (.int .i64 z.1.1.1) ∧ Y.cell? ⟨e, 1, none⟩ = some (.int .i64 z.1.1.2) ∧ Y.cell? ⟨e, 2, none⟩ = some (.int .i64 z.1.2.1) ∧ Y.cell? ⟨e, 3, none⟩ = some (.int .i64 z.1.2.2)) ∧
        a' = { tmps := #[.slice p l cap, undef, .int .i64 0, .pointer (some ⟨w2.heap.size, 0, none⟩), .pointer (some ⟨e, 0, none⟩), .slice p l cap, .slice (some ⟨w.heap.size, 0, none⟩) 1 1, .int .i64 0, .bool false, .slice p l cap, .func (.func 9) #[.slice p l cap] #[], .agg #[.int .i64 z.1.1.1, .int .i64 z.1.1.2, .int .i64 z.1.2.1, .int .i64 z.1.2.2], undef, undef, undef, undef, undef, undef], defers := [] })
      ?hAx ?assign ?body ?done ?stop
    case hI => exact fun xs Y Z hs hb' => ⟨⟨(hb'.cell (p := ⟨w2.heap.size, 0, none⟩) (by simp; omega)).trans hs.1.1, (hb'.frozen (p := ⟨w2.heap.size, 0, none⟩) (by simp; omega)).trans hs.1.2⟩, hs.2.trans (hb'.mono (by omega))⟩
    case hIx => exact fun c xs Y Z hs hb' => hs
    case hAx =>
      rintro z a' Y Z ⟨e, ⟨k0, k1, k2, k3⟩, ha⟩ hc
      exact ⟨e, ⟨hc _ _ k0, hc _ _ k1, hc _ _ k2, hc _ _ k3⟩, ha⟩
    case assign =>
      intro l2 z Y K hs hK
      gi_wp2
      exact hK _ _ ⟨Y.heap.size, ⟨by go_simp, by go_simp, by go_simp, by go_simp⟩, rfl⟩ (allocB _ _)
    case body =>
      clear v0 v1
      rintro l2 xs z a' X ⟨⟨v0, v1⟩, hX⟩ ⟨e, ⟨k0, k1, k2, k3⟩, rfl⟩ hs
      have TN := hidd fun w => turn_zero z.2.1 z.2.2 w
      have hbx := ar2_box z.2.1 z.2.2
      have hS2 : Hid (wrap64 (sumE ar2 (evals (xs ++ [z]))) = wrap64 (wrap64 (sumE ar2 (evals xs)) + ar2 z.1.1 z.1.2)) := hidd (by rw [evals_snoc, sumE_snoc, wrap_add])
      have hn := wrap_box (sumE ar2 (evals xs))
      generalize wrap64 (sumE ar2 (evals xs)) = n at *
      obtain ⟨A, eA⟩ : ∃ A, ar2 z.1.1 z.1.2 = A := ⟨_, rfl⟩
      rw [eA] at TN hbx hS2
      obtain ⟨n1, n2⟩ := hn
      obtain ⟨A1, A2⟩ := hbx
      obtain ⟨m, em⟩ : ∃ m, wrap64 (n + A) = m := ⟨_, rfl⟩
      have hm := wrap_box (n + A)
      rw [em] at hm hS2
      obtain ⟨m1, m2⟩ := hm
      have d0 : X.drew.cell? ⟨w2.heap.size, 0, none⟩ = some (.int .i64 n) := v0
      have d1 : X.drew.frozen? ⟨w2.heap.size, 0, none⟩ = false := v1
      have e0 : X.drew.cell? ⟨e, 0, none⟩ = some (.int .i64 z.1.1.1) := k0
      have e1 : X.drew.cell? ⟨e, 1, none⟩ = some (.int .i64 z.1.1.2) := k1
      have e2 : X.drew.cell? ⟨e, 2, none⟩ = some (.int .i64 z.1.2.1) := k2
      have e3 : X.drew.cell? ⟨e, 3, none⟩ = some (.int .i64 z.1.2.2) := k3
      have hD := drewB X
      have mixed : Try.prog.follows Departure.mixedOrders = true := by kernel_rfl
      clear eA k0 k1 k2 k3
      gi_wp2
      gi_region_with_o (first
        | (refine ⟨trivial, ?_⟩
           gi_at_call 10
           refine (CallsIn.inRound l2 (callsIn_wide.2 (TN.out _))).mono ?_
           rintro e5 w5 ⟨rfl, b5⟩
           have d5 := keepCell b5 d0
           have f5 := keepFrozen b5 d0 d1)
        | fail)
      all_goals
        gi_wp2
        have hb6 := belowT hD b5
        refine ⟨(hb6.mono hX.size).setCell (p := ⟨w2.heap.size, 0, none⟩) hs2 _, (High.of_below hb6).setCell (p := ⟨w2.heap.size, 0, none⟩) hs3 _, ⟨?_, by rw [World.frozen?_setCell]; exact f5⟩, (hX.trans (hb6.mono hX.size)).setCell (p := ⟨w2.heap.size, 0, none⟩) hs2 _⟩
        rw [hS2.out, ← em, show wrap64 (n + A) = IntKind.i64.wrap (n + A) by rw [IntKind.wrap_i64]; unfold wrap64; omega]
        exact store_new d5
    case done =>
      rintro D xs X hD hxs ⟨⟨hv, hf⟩, hX⟩ hK
      have hb : Hid (wrap64 (sumE ar2 (evals xs)) = wrap64 (area R)) := hidd (by rw [hxs, sumE_part, part_all]; rfl)
      rw [hb.out] at hv
      have HM := hidd ((Marks.nil w3.heap.size w3.heap.size X).more (D := D) hD hD hK)
      have hsX := (Array.getElem?_eq_some_iff.1 hK).1
      clear hK hxs hb v0 v1
      gi_wp2
      refine HM.out.leaves (by omega) fun W' hW' => ?_
      exact ⟨.int .i64 (wrap64 (area R)), by simp [results, Try.results4, go_sem], ⟨_, rfl, .inl ⟨HOK.out, rfl⟩⟩, hX.trans (hW'.mono (by omega))⟩
    case stop => exact fun D c' xs X hD hpre h => h.elim
  · have PC2 : Hid (Calls Try.prog 8 #[.slice (some ⟨w.heap.size, 0, none⟩) 1 1] (w.alloc (.cells #[.slice p l cap] 23)) fun e w' => (∃ t, e = .returned (.int .i64 t) ∧ (t != 0) = true) ∧ Below (w.alloc (.cells #[.slice p l cap] 23)).heap.size (w.alloc (.cells #[.slice p l cap] 23)) w') := hidd (PC.out.mono fun e w' ⟨⟨t, he, ht⟩, hb⟩ => ⟨⟨t, he, by simp; exact fun e => hok ((chk_zero ht).1 e)⟩, hb⟩)
    have HOK := hidd hok
    clear hok PC
    gi_wp2_with (first
      | (refine ⟨trivial, ?_⟩
         gi_at_call 8
         refine (callsIn_wide.2 PC2.out).mono ?_
         rintro e w2 ⟨⟨t, rfl, ht⟩, b2⟩
         have B2 := hidd (belowT B1.out b2)
         clear PC2 b2)
      | fail)
    exact ⟨.int .i64 0, by simp [results, Try.results4, go_sem], ⟨0, rfl, .inr ⟨HOK.out, rfl⟩⟩, B2.out⟩

end Go.Proofs.Ytmfpkphhjfgjbab
