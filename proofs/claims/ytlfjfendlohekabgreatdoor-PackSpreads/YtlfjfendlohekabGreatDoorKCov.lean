/-
  What Covers of package pack tells of any list and any word; in whatever memory.
-/
import Derived.Test.YtlfjfendlohekabGreatDoorUHas
import Derived.Test.YtlfjfendlohekabGreatDoorKLine
import Derived.Test.YtlfjfendlohekabGreatDoorProg
import Derived.Handy
import Derived.Deep.QuietTactic
import Derived.Sort.Walk13a
import Derived.Sort.LotA
import Derived.Sort.LotB
import Derived.Sort.LotD1
import Derived.Deep.Draws
import Derived.WalkKit
import Derived.BigGuard
import Derived.BigCall
import Derived.CellFam
import Derived.BigQuiet
import Derived.Sort.WalkB3
import Derived.BigRegion
import Derived.Sort.WalkA6
import Derived.WalkSpells
import Derived.WalkLawsBesides
import Derived.PlainAid
import Derived.Deep.RegionWith
import Derived.Laws.BitsAllLaws
import Derived.Deep.RegionHeld3
import Derived.WalkSmall
import Derived.Deep.CutRange
import Derived.OwnWalk
import Derived.Laws.OwnMore
import Derived.OneCell
import Derived.Laws.CopyOwn
import Derived.Sort.Row
import Derived.Laws.AppendOwn
import Derived.Laws.AppendOwnNone
import Derived.BigFrame
import Derived.Deep.AppendLies
import Derived.Deep.RegionLaw
import Derived.RangeFuncFrom
import Derived.RangeFuncCalls
import Derived.RangeFuncLeaves
import Derived.OwnWalkIn
import Derived.TacticsInMore
import Derived.LoopNIn
import Derived.LoopIn
import Derived.RegionIn
import Derived.Stop.RegionWithIn
import Derived.Sort.LotD3
import Derived.Deep.Cut
import Derived.Deep.LoopGhost
import Derived.Sort.WalkB12
import Derived.Deep.OwnRows
namespace Go.Proofs.YtlfjfendlohekabGreatDoor
open Go.RowKit Go
attribute [local go_sem] Oper.semAt_some

set_option maxRecDepth 100000 in
set_option maxHeartbeats 8000000 in
theorem covers_core (s : Value) (L : List Int) (v : Int) (hn : L.length ≤ 50000) (w : World) (hl : Lst w s L) (b : Bool) (S Sp : List Int → Prop)
    (SQ : ∀ (n₀ : Nat) (w : World), n₀ ≤ w.heap.size → SeqF Fence.wide 2 Tryz.prog 35 #[.int .u64 v] #[] encW n₀ S Sp 13 w)
    (hS : ∀ xs, S xs → (∀ x ∈ xs, ¬ x ∈ L) → b = false) (hSp : ∀ pre, Sp pre → (∃ x ∈ pre, x ∈ L) → b = true) :
    Calls Tryz.prog 16 #[s, .int .u64 v] w fun e w' => e = .returned (.bool b) ∧ Below w.heap.size w w' := by
  have HL := hidd hl
  obtain ⟨p, cap, rfl, -, -⟩ := hl
  obtain ⟨n, en⟩ : ∃ n, L.length = n := ⟨_, rfl⟩
  rw [en] at HL ⊢
  have HN := hidd hn
  clear hn en
  have HS := hidd hS
  have HSp := hidd hSp
  clear hS hSp
  refine (callsIn_wide (n := 3)).1 ?_
  refine callsIn_of_wp_marks Tryz.func16 rfl trivial ?_ rfl
  simp only [Tryz.ntmps16, List.size_toArray, List.length_cons, List.length_nil, Nat.reduceAdd, Nat.reduceSub, Array.replicate_succ, Array.replicate_zero, List.push_toArray, List.append_toArray, List.nil_append, List.cons_append]
  have hal := allocB w (.cells #[.slice p n cap] 24)
  have hal2 := belowT hal (allocB (w.alloc (.cells #[.slice p n cap] 24)) (.cells #[.bool false] 4))
  have z0 : ((w.alloc (.cells #[.slice p n cap] 24)).alloc (.cells #[.bool false] 4)).cell? ⟨w.heap.size, 0, none⟩ = some (.slice p n cap) := by go_simp
  have r0 : ((w.alloc (.cells #[.slice p n cap] 24)).alloc (.cells #[.bool false] 4)).cell? ⟨w.heap.size + 1, 0, none⟩ = some (.bool false) := by go_simp
  have q0 : ((w.alloc (.cells #[.slice p n cap] 24)).alloc (.cells #[.bool false] 4)).frozen? ⟨w.heap.size + 1, 0, none⟩ = false := by go_simp
  have hz : w.heap.size + 1 < ((w.alloc (.cells #[.slice p n cap] 24)).alloc (.cells #[.bool false] 4)).heap.size := World.block_lt_of_cell? _ _ r0
  gi_wp2
  refine rf_law rfl (by omega) (gf := 35) (pb := #[.int .u64 v]) (lb := #[]) rfl trivial (enters_of Tryz.func35 (by kernel_rfl) rfl)
    (SQ w.heap.size _ (by omega)) (by omega) (fun _ => rfl)
    (fun pre W => ((∀ x ∈ pre, ¬ x ∈ L) ∧ W.cell? ⟨w.heap.size, 0, none⟩ = some (.slice p n cap) ∧ W.cell? ⟨w.heap.size + 1, 0, none⟩ = some (.bool false) ∧ W.frozen? ⟨w.heap.size + 1, 0, none⟩ = false) ∧ Below w.heap.size w W)
    (fun c pre W => (c = .ret ∧ (∃ x ∈ pre, x ∈ L) ∧ W.cell? ⟨w.heap.size + 1, 0, none⟩ = some (.bool true)) ∧ Below w.heap.size w W) ?hI ?hIx ⟨⟨(by intro x hx; cases hx), z0, r0, q0⟩, hal2⟩
    (fun x => { tmps := #[.slice p n cap, .int .u64 v, .pointer (some ⟨w.heap.size, 0, none⟩), undef, .pointer (some ⟨w.heap.size + 1, 0, none⟩), .int .u64 x, .int .u64 v, .func (.func 35) #[.int .u64 v] #[], .int .u64 x, undef, undef, undef], defers := [] }) ?assign ?body ?done ?stop
  case hI =>
    intro s X Y hs hb
    exact ⟨⟨hs.1.1, (hb.cell (p := ⟨w.heap.size, 0, none⟩) (by simp <;> omega)).trans hs.1.2.1, (hb.cell (p := ⟨w.heap.size + 1, 0, none⟩) (by simp <;> omega)).trans hs.1.2.2.1, (hb.frozen (p := ⟨w.heap.size + 1, 0, none⟩) (by simp <;> omega)).trans hs.1.2.2.2⟩, hs.2.trans (hb.mono (by omega))⟩
  case hIx =>
    intro c s X Y hs hb
    exact ⟨⟨hs.1.1, hs.1.2.1, (hb.cell (p := ⟨w.heap.size + 1, 0, none⟩) (by simp <;> omega)).trans hs.1.2.2⟩, hs.2.trans (hb.mono (by omega))⟩
  case assign =>
    intro l x W K hK
    gi_wp2
    exact hK
  case body =>
    rintro l pre x W ⟨⟨hp, hc, hr0, hf⟩, hb⟩ hs _
    have CH := hidd (chas (.slice p n cap) L x HN.out W (HL.out.keep hb))
    by_cases hx : x ∈ L
    · have CT : Hid (Calls Tryz.prog 36 #[.slice p n cap, .int .u64 x] W fun e w' => e = .returned (.bool true) ∧ w' = W) := hidd (by have := CH.out; rwa [decide_eq_true hx] at this)
      have HP := hidd hp
      have HX := hidd hx
      clear CH hp hx
      gi_wp2_with (refine ⟨trivial, ?_⟩; gi_at_call 36; refine (CallsIn.inRound l (callsIn_wide.2 CT.out)).mono ?_; rintro e w3 ⟨rfl, rfl⟩)
      exact ⟨(High.refl _ _).setCell (p := ⟨w.heap.size + 1, 0, none⟩) (by simp <;> omega) _, ⟨rfl, ⟨x, List.mem_append.2 (.inr (List.mem_singleton.2 rfl)), HX.out⟩, store_new hr0⟩, hb.setCell (p := ⟨w.heap.size + 1, 0, none⟩) (by simp <;> omega) _⟩
    · have CT : Hid (Calls Tryz.prog 36 #[.slice p n cap, .int .u64 x] W fun e w' => e = .returned (.bool false) ∧ w' = W) := hidd (by have := CH.out; rwa [decide_eq_false hx] at this)
      have HP := hidd hp
      have HX := hidd hx
      clear CH hp hx
      gi_wp2_with (refine ⟨trivial, ?_⟩; gi_at_call 36; refine (CallsIn.inRound l (callsIn_wide.2 CT.out)).mono ?_; rintro e w3 ⟨rfl, rfl⟩)
      exact ⟨Below.refl _ _, High.refl _ _, ⟨fun y hy => (List.mem_append.1 hy).elim (HP.out y) (fun h => by rw [List.mem_singleton.1 h]; exact HX.out), hc, hr0, hf⟩, hb⟩
  case done =>
    rintro D xs W hD hxs ⟨⟨hp, hc, hr0, hf⟩, hb⟩ hK
    have hW := HS.out xs hxs hp
    have hK' : (W.setCell ⟨w.heap.size + 1, 0, none⟩ (.bool false)).heap[D]? = some (.deferred (some [])) := by rw [heap_setCell_other _ _ _ _ (by simp at hD ⊢; omega)]; exact hK
    have hbp := below_put (B := w.heap.size + 2) (W.setCell ⟨w.heap.size + 1, 0, none⟩ (.bool false)) D (.deferred none) (by simp; have := (Array.getElem?_eq_some_iff.1 hK).1; simp at hD; omega) (by simp at hD; omega)
    have hcell := (hbp.cell (p := ⟨w.heap.size + 1, 0, none⟩) (by simp <;> omega)).trans (store_new hr0)
    gi_wp2
    refine ⟨by simp, .inl ⟨_, _, rfl, run_takeDeferred hK', ?_⟩⟩
    exact ⟨.bool false, by simp [results, Tryz.results16, go_sem, hcell], by rw [hW], (hb.setCell (p := ⟨w.heap.size + 1, 0, none⟩) (by simp <;> omega) _).trans (hbp.mono (by omega))⟩
  case stop =>
    rintro D c pre W hD hpre ⟨⟨rfl, hx, hr0⟩, hb⟩ hK
    have hW := HSp.out pre hpre hx
    have hbp := below_put (B := w.heap.size + 2) W D (.deferred none) (by have := (Array.getElem?_eq_some_iff.1 hK).1; simp at hD; omega) (by simp at hD; omega)
    have hcell := (hbp.cell (p := ⟨w.heap.size + 1, 0, none⟩) (by simp <;> omega)).trans hr0
    gi_wp2
    refine ⟨by simp, .inl ⟨_, _, rfl, run_takeDeferred hK, ?_⟩⟩
    exact ⟨.bool true, by simp [results, Tryz.results16, go_sem, hcell], by rw [hW], hb.trans (hbp.mono (by omega))⟩

theorem p_covers (s : Value) (L : List Int) (v : Int) (uv : U64 v) (hn : L.length ≤ 50000) (b : Bool) (hb : b = true ↔ Whole v ∧ Cov L v) (w : World) (hl : Lst w s L) :
    Calls Tryz.prog 16 #[s, .int .u64 v] w fun e w' => e = .returned (.bool b) ∧ Below w.heap.size w w' := by
  by_cases hv : Whole v
  · refine covers_core s L v hn w hl b _ _ (fun n₀ w h => lwords_seq v hv n₀ w h) (fun xs e h => ?_) (fun pre e h => ?_)
    · subst e
      cases hb1 : b with
      | false => rfl
      | true =>
        obtain ⟨-, p, hp, ha⟩ := hb.1 hb1
        exact absurd hp (h p (lw_mem.2 ha))
    · obtain ⟨k, hk, rfl⟩ := e
      obtain ⟨x, hx, hxL⟩ := h
      exact hb.2 ⟨hv, x, hxL, lw_mem.1 (lw_sub hk x hx)⟩
  · refine covers_core s L v hn w hl b _ _ (fun n₀ w _ => lwords_no v uv hv n₀ w) (fun xs e h => ?_) (fun pre e h => e.elim)
    cases hb1 : b with
    | false => rfl
    | true => exact absurd (hb.1 hb1).1 hv

end Go.Proofs.YtlfjfendlohekabGreatDoor
