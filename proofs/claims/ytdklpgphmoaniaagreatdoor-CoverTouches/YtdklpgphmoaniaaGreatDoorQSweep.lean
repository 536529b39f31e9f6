/-
  A sweep of package cover as it is made: its box, its size, its axis, the ways that lead farther on; in whatever memory where the table of Units holds what its text lays.
-/
import Derived.Test.YtdklpgphmoaniaaGreatDoorQPut
import Derived.Test.YtdklpgphmoaniaaGreatDoorProg
import Derived.Handy
import Derived.Deep.QuietTactic
import Derived.WalkSpells
import Derived.WalkLawsBesides
import Derived.BigQuiet
import Derived.PlainAid
import Derived.Deep.RegionWith
import Derived.Laws.BitsAllLaws
import Derived.Sort.LotA
import Derived.Sort.LotB
import Derived.Deep.RegionHeld3
import Derived.WalkSmall
import Derived.Deep.CutRange
import Derived.BigRegion
import Derived.OwnWalk
import Derived.Laws.OwnMore
import Derived.OneCell
import Derived.Laws.CopyOwn
import Derived.Sort.Row
import Derived.Sort.WalkB3
import Derived.Laws.StructEq
import Derived.Deep.AppendLies
import Derived.Deep.RegionLaw
import Derived.RangeFuncFrom
import Derived.RangeFuncCalls
import Derived.RangeFuncLeaves
import Derived.WalkKit
import Derived.OwnWalkIn
import Derived.TacticsInMore
import Derived.LoopNIn
import Derived.LoopIn
import Derived.RegionIn
import Derived.Stop.RegionWithIn
namespace Go.Proofs.YtdklpgphmoaniaaGreatDoor
open Go.RowKit

/-- A sweep at block S: all but what waits. -/
structure SweepM (S : Nat) (l1 l2 u1 u2 r d : Int) (vo : Value) (w : World) : Prop where
  a0 : w.cell? ⟨S, 0, none⟩ = some (.int .i64 l1)
  a1 : w.cell? ⟨S, 1, none⟩ = some (.int .i64 l2)
  a2 : w.cell? ⟨S, 2, none⟩ = some (.int .i64 u1)
  a3 : w.cell? ⟨S, 3, none⟩ = some (.int .i64 u2)
  siz : SizA S r d w
  way : w.cell? ⟨S, 6, none⟩ = some vo

theorem SweepM.keep {S : Nat} {l1 l2 u1 u2 r d : Int} {vo : Value} {w w' : World} (h : SweepM S l1 l2 u1 u2 r d vo w) (hb : Below w.heap.size w w') : SweepM S l1 l2 u1 u2 r d vo w' :=
  ⟨keepCell hb h.a0, keepCell hb h.a1, keepCell hb h.a2, keepCell hb h.a3, h.siz.keep hb, keepCell hb h.way⟩

theorem SweepM.but {S : Nat} {l1 l2 u1 u2 r d : Int} {vo : Value} {row : Option Nat} {w w' : World} (h : SweepM S l1 l2 u1 u2 r d vo w) (hb : ButQ S 7 row w w') : SweepM S l1 l2 u1 u2 r d vo w' :=
  ⟨hb.cellB h.a0 (by omega), hb.cellB h.a1 (by omega), hb.cellB h.a2 (by omega), hb.cellB h.a3 (by omega), h.siz.but hb (by omega) (by omega), hb.cellB h.way (by omega)⟩

theorem SweepM.far {S : Nat} {l1 l2 u1 u2 r d : Int} {vo : Value} {row : Option Nat} {w w' : World} (h : SweepM S l1 l2 u1 u2 r d vo w) (hg : w.grownBy w' row) (hr : some S ≠ row) : SweepM S l1 l2 u1 u2 r d vo w' :=
  ⟨hg.cell h.a0 hr, hg.cell h.a1 hr, hg.cell h.a2 hr, hg.cell h.a3 hr, ⟨hg.cell h.siz.1 hr, hg.cell h.siz.2 hr⟩, hg.cell h.way hr⟩

theorem SweepM.way_set {S : Nat} {l1 l2 u1 u2 r d : Int} {vo : Value} {w : World} (h : SweepM S l1 l2 u1 u2 r d vo w) (v : Value) : SweepM S l1 l2 u1 u2 r d v (w.setCell ⟨S, 6, none⟩ v) :=
  ⟨store_keep h.a0 (by simp), store_keep h.a1 (by simp), store_keep h.a2 (by simp), store_keep h.a3 (by simp), ⟨store_keep h.siz.1 (by simp), store_keep h.siz.2 (by simp)⟩, store_new h.way⟩

/-- The first of the ways, as values. -/
def onwT (K d j : Nat) : List Nat := (List.range j).filter fun i => decide (0 < plc K d (uA i) (uB i))

def natV (L : List Nat) : List Value := L.map fun (i : Nat) => Value.int .i64 (i : Int)

theorem natV_len (L : List Nat) : (natV L).length = L.length := by simp [natV]

theorem onwT_yes {K d j : Nat} (h : 0 < plc K d (uA j) (uB j)) : onwT K d (j + 1) = onwT K d j ++ [j] := by
  unfold onwT
  rw [List.range_succ, List.filter_append]
  simp [h]

theorem onwT_no {K d j : Nat} (h : ¬ 0 < plc K d (uA j) (uB j)) : onwT K d (j + 1) = onwT K d j := by
  unfold onwT
  rw [List.range_succ, List.filter_append]
  simp [h]

theorem onwT_len (K d j : Nat) : (onwT K d j).length ≤ j := by
  unfold onwT
  exact Nat.le_trans (List.length_filter_le _ _) (by simp)

theorem own_any {w : World} {base : Nat} {e : TypeId} {size n : Nat} {v : Value} {xs : List Value} (h : w.ownsRow base e size v n xs) : ∃ p c, v = .slice p n c := by
  rcases h.2 with ⟨e, e0⟩ | ⟨g2, c2, cur, e, _⟩
  · exact ⟨none, 0, by rw [e, e0]⟩
  · exact ⟨_, _, e⟩

theorem infoInt : (Tryz.prog.info? 3).map (fun i => (i.zero, i.size, i.bytes)) = some (some (.int .i64 0), 1, 8) := by kernel_rfl

set_option maxHeartbeats 8000000 in
set_option maxRecDepth 100000 in
theorem q_newSweep (l1 l2 u1 u2 r : Int) (d : Nat) (hd : d ≤ 1) (K : Nat) (hK : K ≤ 12) (hr : 12 - r = (K : Int)) (w : World) (hU : Uni w) :
    Calls Tryz.prog 67 #[.agg #[.int .i64 l1, .int .i64 l2, .int .i64 u1, .int .i64 u2], .int .i64 r, .int .i64 (d : Int)] w fun e w' => ∃ (S : Nat) (vo : Value), e = .returned (.pointer (some ⟨S, 0, none⟩)) ∧ w.heap.size ≤ S ∧ SweepM S l1 l2 u1 u2 r d vo w' ∧ (w'.cell? ⟨S, 7, none⟩ = some (.slice none 0 0) ∧ w'.frozen? ⟨S, 7, none⟩ = false) ∧ w'.ownsRow (S + 1) 3 1 vo (onw K d).length (natV (onw K d)) ∧ Below w.heap.size w w' := by
  have UN := hidd fun (j : Nat) (hj : j < 6) w hU => (by have := eunit_any (j : Int) (by omega) (by omega) w hU; rwa [(unit_u hj).1, (unit_u hj).2] at this : Calls Tryz.prog 103 #[.int .i64 (j : Int)] w fun e w' => e = .returned (.agg #[.int .i64 (uA j), .int .i64 (uB j)]) ∧ Below w.heap.size w w')
  have PL := hidd fun (S j : Nat) (hj : j < 6) w h => q_place S d hd (uA j) (uB j) r K hK hr (by have := u_box j; unfold Near9; omega) w h
  have HU := hidd hU
  clear hU
  obtain ⟨i0, hi, hz0, hz1, hz2⟩ := info_partsQ infoInt
  go_enter Tryz.func67, Tryz.ntmps67
  go_wp2_with fail
  have al := belowT (allocB w (.cells #[.int .i64 l1, .int .i64 l2, .int .i64 u1, .int .i64 u2] 80)) (allocB (w.alloc (.cells #[.int .i64 l1, .int .i64 l2, .int .i64 u1, .int .i64 u2] 80)) (.cells #[.int .i64 l1, .int .i64 l2, .int .i64 u1, .int .i64 u2, .int .i64 r, .int .i64 (d : Int), .slice none 0 0, .slice none 0 0] 154))
  have M0 : SweepM (w.heap.size + 1) l1 l2 u1 u2 r (d : Int) (.slice none 0 0) ((w.alloc (.cells #[.int .i64 l1, .int .i64 l2, .int .i64 u1, .int .i64 u2] 80)).alloc (.cells #[.int .i64 l1, .int .i64 l2, .int .i64 u1, .int .i64 u2, .int .i64 r, .int .i64 (d : Int), .slice none 0 0, .slice none 0 0] 154)) := ⟨by go_simp, by go_simp, by go_simp, by go_simp, ⟨by go_simp, by go_simp⟩, by go_simp⟩
  have c7 : ((w.alloc (.cells #[.int .i64 l1, .int .i64 l2, .int .i64 u1, .int .i64 u2] 80)).alloc (.cells #[.int .i64 l1, .int .i64 l2, .int .i64 u1, .int .i64 u2, .int .i64 r, .int .i64 (d : Int), .slice none 0 0, .slice none 0 0] 154)).cell? ⟨w.heap.size + 1, 7, none⟩ = some (.slice none 0 0) := by go_simp
  have f6 : ((w.alloc (.cells #[.int .i64 l1, .int .i64 l2, .int .i64 u1, .int .i64 u2] 80)).alloc (.cells #[.int .i64 l1, .int .i64 l2, .int .i64 u1, .int .i64 u2, .int .i64 r, .int .i64 (d : Int), .slice none 0 0, .slice none 0 0] 154)).frozen? ⟨w.heap.size + 1, 6, none⟩ = false := by go_simp
  have f7 : ((w.alloc (.cells #[.int .i64 l1, .int .i64 l2, .int .i64 u1, .int .i64 u2] 80)).alloc (.cells #[.int .i64 l1, .int .i64 l2, .int .i64 u1, .int .i64 u2, .int .i64 r, .int .i64 (d : Int), .slice none 0 0, .slice none 0 0] 154)).frozen? ⟨w.heap.size + 1, 7, none⟩ = false := by go_simp
  generalize ((w.alloc (.cells #[.int .i64 l1, .int .i64 l2, .int .i64 u1, .int .i64 u2] 80)).alloc (.cells #[.int .i64 l1, .int .i64 l2, .int .i64 u1, .int .i64 u2, .int .i64 r, .int .i64 (d : Int), .slice none 0 0, .slice none 0 0] 154)) = w1 at *
  obtain ⟨S, eS⟩ : ∃ S, w.heap.size + 1 = S := ⟨_, rfl⟩
  rw [eS] at M0 c7 f6 f7 ⊢
  have hS1 := World.block_lt_of_cell? _ _ c7
  simp only at hS1
  go_loopw [14] (fun v14 wr => ∃ (j : Nat) (vo : Value), j ≤ 6 ∧ v14 = .int .i64 (j : Int) ∧ Hid (SweepM S l1 l2 u1 u2 r (d : Int) vo wr) ∧ wr.cell? ⟨S, 7, none⟩ = some (.slice none 0 0) ∧ wr.frozen? ⟨S, 7, none⟩ = false ∧ wr.frozen? ⟨S, 6, none⟩ = false ∧ Hid (wr.ownsRow (S + 1) 3 1 vo (onwT K d j).length (natV (onwT K d j))) ∧ Hid (Below w.heap.size w wr)) (fun v14 _ => 6 - (intOf v14).toNat)
  case atStart => exact ⟨0, _, by omega, rfl, hidd M0, c7, f7, f6, hidd (World.ownsRow_nil _ _ _ _), hidd al⟩
  case round =>
    clear c7 f6 f7 M0 al
    obtain ⟨j, vo, hj, rfl, M, c7, f7, f6, OW, B⟩ := hrel
    obtain ⟨vp, vc, evo⟩ := own_any OW.out
    by_cases hj6 : j < 6
    · have hj6' : (j : Int) < 6 := by omega
      have U1 := hidd (UN.out j hj6 wr (HU.out.below B.out))
      go_wp2_with fail
      refine U1.out.mono ?_
      rintro e w2 ⟨rfl, b2⟩
      have hb2 := b2.size
      replace f7 := keepFrozen b2 c7 f7
      replace f6 := keepFrozen b2 M.out.way f6
      replace c7 := keepCell b2 c7
      replace M := hidd (M.out.keep b2)
      replace OW := hidd (own_keep b2 OW.out)
      replace B := hidd (belowT B.out b2)
      have P1 := hidd (PL.out S j hj6 w2 M.out.siz)
      clear U1 b2
      have YES := hidd fun (h : 0 < plc K d (uA j) (uB j)) => onwT_yes h
      have NO := hidd fun (h : ¬ 0 < plc K d (uA j) (uB j)) => onwT_no h
      generalize uA j = pa at *
      generalize uB j = pb at *
      generalize plc K d pa pb = P at *
      go_wp2_with fail
      refine P1.out.mono ?_
      rintro e w3 ⟨rfl, b3⟩
      have hb3 := b3.size
      replace f7 := keepFrozen b3 c7 f7
      replace f6 := keepFrozen b3 M.out.way f6
      replace c7 := keepCell b3 c7
      replace M := hidd (M.out.keep b3)
      replace OW := hidd (own_keep b3 OW.out)
      replace B := hidd (belowT B.out b3)
      clear P1 b3
      by_cases hP : 0 < P
      · have c6 := M.out.way
        rw [evo] at c6
        have ol := onwT_len K d j
        have lS := World.block_lt_of_cell? _ _ c7
        simp only at lS
        have NX := hidd (YES.out hP)
        clear YES NO
        have al := allocB w3 (.cells #[.int .i64 (j : Int)] 3)
        have nS : some S ≠ (Value.slice vp (onwT K d j).length vc).ownBlock := fun e => by rw [← evo] at e; have := (World.ownsRow.lt OW.out S e.symm).1; omega
        have CF := hidd (And.intro (And.intro (keepCell al c6) (keepFrozen al c6 f6)) (And.intro (keepCell al c7) (keepFrozen al c7 f7)))
        go_wp2_with (at_builtin; (refine wpList_append_lies _ rfl (.tmp 26) (.tmp 28) 150 rfl (S + 1) 3 i0 (.int .i64 0) 1 8 Tryz.underlying150 hi hz0 hz1 hz2 rfl (by decide) (.slice vp (onwT K d j).length vc) _ _ rfl (own_keep (allocB _ _) (by rw [← evo]; exact OW.out)) ⟨w3.heap.size, 0, none⟩ 1 1 [.int .i64 (j : Int)] rfl rfl (one_lies _ _ rfl _ _) (one_int _ _) (by decide) (by unfold maxLen; omega) (by omega) (by simp; omega) (w3.heap.size + 1) (by simp) ?_; intro g6 q6 w6 hown hgrow hat hlt6; obtain ⟨c6', f6'⟩ := far_keep hgrow nS CF.out.1))
        have gS : g6 ≠ S := by
          rcases hat with h | h
          · exact fun e => nS (by rw [h, e])
          · omega
        have M6 := hidd ((M.out.keep al).far hgrow nS)
        have f7' := far_keep (p := ⟨S, 7, none⟩) hgrow nS CF.out.2
        have B6 := hidd ((belowT B.out al).grown hgrow (by have := B.out.size; simp; omega) (fun k e => by rw [← evo] at e; have := (World.ownsRow.lt OW.out k e).1; omega))
        have OW6 := hidd hown
        obtain ⟨c7', f7''⟩ := f7'
        clear hown hgrow hat al M OW B c7 f7 f6 c6
        go_roundw
        case rel =>
          refine ⟨j + 1, _, by omega, by go_num, hidd (M6.out.way_set _), store_keep c7' (by simp), by rw [World.frozen?_setCell]; exact f7'', by rw [World.frozen?_setCell]; exact f6', hidd ?_, hidd (B6.out.setCell (by simp; omega) _)⟩
          rw [NX.out, List.length_append]
          have hv : natV (onwT K d j ++ [j]) = natV (onwT K d j) ++ [.int .i64 (j : Int)] := by unfold natV; rw [List.map_append]; rfl
          rw [hv]
          exact World.ownsRow.kept OW6.out (grown_set _ S 6 _) (.inr (by simpa [Value.ownBlock] using gS))
        case measure => simp [intOf]; omega
      · have hP0 : decide (0 < P) = false := df (by omega)
        have NX := hidd (NO.out (by omega))
        clear YES NO hP
        go_wp2_with fail
        go_roundw
        case rel => exact ⟨j + 1, vo, by omega, by go_num, M, c7, f7, f6, hidd (by rw [NX.out]; exact OW.out), B⟩
        case measure => simp [intOf]; omega
    · obtain rfl : j = 6 := by omega
      have hj6' : decide (((6 : Nat) : Int) < 6) = false := by decide
      go_wp2
      go_ret
      exact ⟨S, vo, rfl, by omega, M.out, ⟨c7, f7⟩, OW.out, B.out⟩

end Go.Proofs.YtdklpgphmoaniaaGreatDoor
