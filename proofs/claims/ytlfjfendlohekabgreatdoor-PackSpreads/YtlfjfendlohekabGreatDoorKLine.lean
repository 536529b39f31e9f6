/-
  The words on a word's line, handed on one by one, the finest first: what package pack's words of a line tells a loop over it; what Covers tells; in whatever memory.
-/
import Derived.Test.YtlfjfendlohekabGreatDoorM2C
import Derived.Test.YtlfjfendlohekabGreatDoorUC
import Derived.Test.YtlfjfendlohekabGreatDoorI2C
import Derived.Test.YtlfjfendlohekabGreatDoorProg
import Derived.Handy
import Derived.Deep.QuietTactic
import Derived.Sort.Walk13a
import Derived.Sort.LotA
import Derived.Sort.LotB
import Derived.Sort.LotD1
import Derived.Deep.Draws
import Derived.WalkKit
import Derived.BigGuard
import Derived.BigCall
import Derived.CellFam
import Derived.BigQuiet
import Derived.Sort.WalkB3
import Derived.BigRegion
import Derived.Sort.WalkA6
import Derived.WalkSpells
import Derived.WalkLawsBesides
import Derived.PlainAid
import Derived.Deep.RegionWith
import Derived.Laws.BitsAllLaws
import Derived.Deep.RegionHeld3
import Derived.WalkSmall
import Derived.Deep.CutRange
import Derived.OwnWalk
import Derived.Laws.OwnMore
import Derived.OneCell
import Derived.Laws.CopyOwn
import Derived.Sort.Row
import Derived.Laws.AppendOwn
import Derived.Laws.AppendOwnNone
import Derived.BigFrame
import Derived.Deep.AppendLies
import Derived.Deep.RegionLaw
import Derived.RangeFuncFrom
import Derived.RangeFuncCalls
import Derived.RangeFuncLeaves
import Derived.OwnWalkIn
import Derived.TacticsInMore
import Derived.LoopNIn
import Derived.LoopIn
import Derived.RegionIn
import Derived.Stop.RegionWithIn
import Derived.Sort.LotD3
import Derived.Deep.Cut
import Derived.Deep.LoopGhost
import Derived.Sort.WalkB12
import Derived.Deep.OwnRows
namespace Go.Proofs.YtlfjfendlohekabGreatDoor
open Go.RowKit Go
attribute [local go_sem] Oper.semAt_some

theorem upWs_last : ∀ (k : Nat) (v : Int), upWs (k + 1) v = upW (upWs k v)
  | 0, _ => rfl
  | k + 1, v => by show upWs (k + 1) (upW v) = _; rw [upWs_last k (upW v)]; rfl

theorem upWs_whole : ∀ (n : Nat) {w : Int}, Whole w → (n : Int) ≤ wR w → Whole (upWs n w) ∧ wR (upWs n w) = wR w - n
  | 0, w, h, _ => ⟨h, by show wR w = wR w - ((0 : Nat) : Int); omega⟩
  | n + 1, w, h, hn => by
    have hu := up_whole h (by omega)
    have ih := upWs_whole n hu.1 (by omega)
    show Whole (upWs n (upW w)) ∧ wR (upWs n (upW w)) = _
    exact ⟨ih.1, by omega⟩

/-- The first k words on a line. -/
def lw (v : Int) (k : Nat) : List Int := (List.range k).map fun i => upWs i v

theorem lw_step (v : Int) (k : Nat) : lw v (k + 1) = lw v k ++ [upWs k v] := by unfold lw; rw [List.range_succ, List.map_append]; rfl

theorem lw_len (v : Int) (k : Nat) : (lw v k).length = k := by unfold lw; simp

theorem lw_mem {v : Int} {x : Int} : x ∈ lw v ((wR v).toNat + 1) ↔ Above x v := by
  have hb := wR_box v
  unfold lw Above
  rw [List.mem_map]
  constructor
  · rintro ⟨k, hk, rfl⟩; exact ⟨k, by have := List.mem_range.1 hk; omega, rfl⟩
  · rintro ⟨k, hk, rfl⟩; exact ⟨k, List.mem_range.2 (by omega), rfl⟩

theorem lw_sub {v : Int} {k n : Nat} (h : k ≤ n) : ∀ x ∈ lw v k, x ∈ lw v n := fun x hx => by
  unfold lw at hx ⊢
  obtain ⟨i, hi, rfl⟩ := List.mem_map.1 hx
  exact List.mem_map.2 ⟨i, List.mem_range.2 (by have := List.mem_range.1 hi; omega), rfl⟩

/-- How far a line has yet to go. -/
def lineMs : Value → Value → Nat
  | .int _ x, .int _ e => if e = 0 then (wR x).toNat + 2 else 1
  | _, _ => 0

abbrev encW (x : Int) : Array Value := #[.int .u64 x]

set_option maxRecDepth 100000 in
set_option maxHeartbeats 4000000 in
theorem lwords_seq (v : Int) (hv : Whole v) (n₀ : Nat) (w : World) (hn : n₀ ≤ w.heap.size) :
    SeqF Fence.wide 2 Tryz.prog 35 #[.int .u64 v] #[] encW n₀ (fun xs => xs = lw v ((wR v).toNat + 1)) (fun pre => ∃ k, k ≤ (wR v).toNat + 1 ∧ pre = lw v k) 13 w := by
  intro l J Jx W hW hJ hJx hY h0
  have hW0 : n₀ ≤ W.heap.size := Nat.le_trans hn hW.size
  have ub := whole_box hv
  have hb := wR_box v
  have h12 := hv.2.1
  have OK := hidd fun w => iok v ⟨by omega, by omega⟩ true (by simp [hv]) w
  obtain ⟨R, hR⟩ : ∃ R, (wR v).toNat = R := ⟨_, rfl⟩
  rw [hR]
  have HV := hidd hv
  refine callsIn_of_wp Tryz.func35 rfl trivial ?_ rfl
  simp only [Tryz.ntmps35, List.size_toArray, List.length_cons, List.length_nil, Nat.reduceAdd, Nat.reduceSub, Array.replicate_succ, Array.replicate_zero, List.push_toArray, List.append_toArray, List.nil_append, List.cons_append]
  gi_wp2_with (first
    | (refine ⟨trivial, ?_⟩; gi_at_call 45; refine (callsIn_wide.2 (OK.out _)).mono ?_; rintro e w1 ⟨rfl, hb1⟩)
    | fail)
  have hJ1 : J (lw v 0) w1 := hJ _ _ _ h0 hb1
  have hs1 := hb1.size
  have hB1 : Below n₀ W w1 := hb1.mono hW0
  clear h0 hb1 OK
  gi_loopw [4, 5] (fun v4 v5 wr => ∃ k : Nat, Hid ((k < R + 1 ∧ v4 = .int .u64 (upWs k v) ∧ v5 = .int .i64 0) ∨ (k = R + 1 ∧ v4 = .int .u64 0 ∧ v5 = .int .i64 3)) ∧ Below n₀ W wr ∧ W.heap.size ≤ wr.heap.size ∧ J (lw v k) wr) (fun v4 v5 _ => lineMs v4 v5)
  case atStart => exact ⟨0, .inl ⟨by omega, rfl, rfl⟩, hB1, by omega, hJ1⟩
  case round =>
    clear hJ1 hs1 hB1
    obtain ⟨k, hv45, hb, hsz, hJr⟩ := hrel
    rcases hv45.out with ⟨hk, rfl, rfl⟩ | ⟨rfl, rfl, rfl⟩
    · clear hv45
      have hw := upWs_whole k HV.out (by omega)
      have hnx := hidd (lw_step v k)
      have hup := hidd (upWs_last k v)
      generalize upWs k v = x at *
      have ux := whole_box hw.1
      obtain ⟨fn, tmps, assign, body, hy, hRd⟩ := hY (lw v k) x wr hJr (by rw [lw_len]; omega) hsz
      have HR := hidd hRd
      have HX := hidd hw
      have hRv := hidd hR
      clear hRd hw hv hY hJr hR
      by_cases hr : wR x = 0
      · have PT := hidd fun w => iparent_top x HX.out.1 hr w
        have ek : Hid (k = R) := hidd (by have := HX.out.2; have := hRv.out; omega)
        gi_wp2
        refine HR.out.mono ?_
        rintro e W3 (⟨rfl, h1, h2, h3⟩ | ⟨rfl, h1⟩)
        · have H1 := hidd (show J (lw v (k + 1)) W3 by rw [hnx.out]; exact h1)
          have hb3 := hb.trans h2
          have hs3 := h3.size
          clear h1 h2 h3 HR
          gi_wp2_with (first
            | (refine ⟨trivial, ?_⟩; gi_at_call 39; refine (callsIn_wide.2 (PT.out _)).mono ?_; rintro e w4 ⟨rfl, hb4⟩)
            | fail)
          have hs4 := hb4.size
          go_roundw
          case rel => exact ⟨k + 1, .inr ⟨by have := ek.out; omega, rfl, rfl⟩, hb3.trans (hb4.mono (by omega)), by omega, hJ _ _ _ H1.out (hb4.mono (by omega))⟩
          case measure => simp [lineMs]
        · have H1 := hidd (show Jx (lw v (k + 1)) W3 by rw [hnx.out]; exact h1)
          clear h1 HR
          gi_wp2
          go_end0
          exact ⟨⟨_, rfl⟩, .inr ⟨_, ⟨k + 1, by omega, rfl⟩, H1.out⟩⟩
      · have hr0 : 0 < wR x := by have := wR_box x; omega
        have PT := hidd fun w => iparent_yes x HX.out.1 hr0 w
        have hu := up_whole HX.out.1 hr0
        have ub2 := whole_box hu.1
        have ek : Hid (k + 1 < R + 1) := hidd (by have := HX.out.2; have := hRv.out; omega)
        have hms : Hid (lineMs (.int .u64 (upW x)) (.int .i64 0) < lineMs (.int .u64 x) (.int .i64 0)) := hidd (by
          simp only [lineMs, if_true]
          have := hu.2
          omega)
        clear hu hr
        generalize upW x = q at *
        gi_wp2
        refine HR.out.mono ?_
        rintro e W3 (⟨rfl, h1, h2, h3⟩ | ⟨rfl, h1⟩)
        · have H1 := hidd (show J (lw v (k + 1)) W3 by rw [hnx.out]; exact h1)
          have hb3 := hb.trans h2
          have hs3 := h3.size
          clear h1 h2 h3 HR
          gi_wp2_with (first
            | (refine ⟨trivial, ?_⟩; gi_at_call 39; refine (callsIn_wide.2 (PT.out _)).mono ?_; rintro e w4 ⟨rfl, hb4⟩)
            | fail)
          have hs4 := hb4.size
          go_roundw
          case rel => exact ⟨k + 1, .inl ⟨ek.out, by rw [hup.out], rfl⟩, hb3.trans (hb4.mono (by omega)), by omega, hJ _ _ _ H1.out (hb4.mono (by omega))⟩
          case measure => exact hms.out
        · have H1 := hidd (show Jx (lw v (k + 1)) W3 by rw [hnx.out]; exact h1)
          clear h1 HR
          gi_wp2
          go_end0
          exact ⟨⟨_, rfl⟩, .inr ⟨_, ⟨k + 1, by omega, rfl⟩, H1.out⟩⟩
    · clear hv45
      gi_wp2
      refine ⟨fun _ h => (by cases h), ?_⟩
      gi_wp2
      go_end0
      exact ⟨⟨_, rfl⟩, .inl ⟨_, rfl, hJr⟩⟩

set_option maxRecDepth 100000 in
set_option maxHeartbeats 4000000 in
theorem lwords_no (v : Int) (uv : U64 v) (hv : ¬ Whole v) (n₀ : Nat) (w : World) :
    SeqF Fence.wide 2 Tryz.prog 35 #[.int .u64 v] #[] encW n₀ (fun xs => xs = []) (fun _ => False) 13 w := by
  intro l J Jx W hW hJ hJx hY h0
  have OK := hidd fun w => iok v uv false (by simp [hv]) w
  refine callsIn_of_wp Tryz.func35 rfl trivial ?_ rfl
  simp only [Tryz.ntmps35, List.size_toArray, List.length_cons, List.length_nil, Nat.reduceAdd, Nat.reduceSub, Array.replicate_succ, Array.replicate_zero, List.push_toArray, List.append_toArray, List.nil_append, List.cons_append]
  gi_wp2_with (first
    | (refine ⟨trivial, ?_⟩; gi_at_call 45; refine (callsIn_wide.2 (OK.out _)).mono ?_; rintro e w1 ⟨rfl, hb1⟩)
    | fail)
  have hJ1 : J [] w1 := hJ _ _ _ h0 hb1
  refine bodyPost_ret (results_none rfl _ _ _) rfl ?_
  exact ⟨⟨_, rfl⟩, .inl ⟨_, rfl, hJ1⟩⟩

end Go.Proofs.YtlfjfendlohekabGreatDoor
