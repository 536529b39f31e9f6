/-
  The numbers of the cells about a point, as package cover lists them; rows of numbers of the lattice; in whatever memory where the table of Units holds what its text lays.
-/
import Derived.Test.YtdklpgphmoaniaaGreatDoorRBox10
import Derived.Test.YtdklpgphmoaniaaGreatDoorQSweep
import Derived.Test.YtdklpgphmoaniaaGreatDoorProg
import Derived.Handy
import Derived.Deep.QuietTactic
import Derived.WalkSpells
import Derived.WalkLawsBesides
import Derived.BigQuiet
import Derived.PlainAid
import Derived.Deep.RegionWith
import Derived.Laws.BitsAllLaws
import Derived.Sort.LotA
import Derived.Sort.LotB
import Derived.Deep.RegionHeld3
import Derived.WalkSmall
import Derived.Deep.CutRange
import Derived.BigRegion
import Derived.OwnWalk
import Derived.Laws.OwnMore
import Derived.OneCell
import Derived.Laws.CopyOwn
import Derived.Sort.Row
import Derived.Sort.WalkB3
import Derived.Laws.StructEq
import Derived.Deep.AppendLies
import Derived.Deep.RegionLaw
import Derived.RangeFuncFrom
import Derived.RangeFuncCalls
import Derived.RangeFuncLeaves
import Derived.WalkKit
import Derived.OwnWalkIn
import Derived.TacticsInMore
import Derived.LoopNIn
import Derived.LoopIn
import Derived.RegionIn
import Derived.Stop.RegionWithIn
namespace Go.Proofs.YtdklpgphmoaniaaGreatDoor
open Go.RowKit

/-- Numbers of the lattice as cells of a row, two each. -/
def pairV (L : List (Int × Int)) : List Value := L.flatMap fun p => [.int .i64 p.1, .int .i64 p.2]

theorem pairV_cons (p : Int × Int) (L : List (Int × Int)) : pairV (p :: L) = .int .i64 p.1 :: .int .i64 p.2 :: pairV L := rfl

theorem pairV_app (L M : List (Int × Int)) : pairV (L ++ M) = pairV L ++ pairV M := by unfold pairV; rw [List.flatMap_append]

theorem pairV_one (p : Int × Int) : pairV [p] = [.int .i64 p.1, .int .i64 p.2] := by unfold pairV; simp

theorem pairV_len : ∀ L : List (Int × Int), (pairV L).length = L.length * 2
  | [] => rfl
  | p :: L => by rw [pairV_cons]; simp only [List.length_cons, pairV_len L]; omega

theorem pairV_at : ∀ (L : List (Int × Int)) (i : Nat) (h : i < L.length), (pairV L)[i * 2]? = some (.int .i64 L[i].1) ∧ (pairV L)[i * 2 + 1]? = some (.int .i64 L[i].2)
  | p :: L, 0, _ => by rw [pairV_cons]; exact ⟨rfl, rfl⟩
  | p :: L, i + 1, h => by
    rw [pairV_cons, show (i + 1) * 2 = i * 2 + 1 + 1 by omega]
    have := pairV_at L i (by simpa using h)
    simp only [List.getElem?_cons_succ, List.getElem_cons_succ]
    exact this

/-- A row of numbers of the lattice of one's own. -/
def RowE (base : Nat) (v : Value) (L : List (Int × Int)) (w : World) : Prop := w.ownsRow base 23 2 v L.length (pairV L)

theorem RowE.keep {base : Nat} {v : Value} {L : List (Int × Int)} {w w' : World} (h : RowE base v L w) (hb : Below w.heap.size w w') : RowE base v L w' := own_keep hb h

theorem RowE.any {base : Nat} {v : Value} {L : List (Int × Int)} {w : World} (h : RowE base v L w) : ∃ p c, v = .slice p L.length c := own_any h

theorem RowE.at_ {base : Nat} {v : Value} {L : List (Int × Int)} {w : World} (h : RowE base v L w) (i : Nat) (hi : i < L.length) :
    ∃ g c, v = .slice (some ⟨g, 0, none⟩) L.length c ∧ base ≤ g ∧ w.cell? ⟨g, i * 2, none⟩ = some (.int .i64 L[i].1) ∧ w.cell? ⟨g, i * 2 + 1, none⟩ = some (.int .i64 L[i].2) := by
  obtain ⟨g, c, e, hb, -⟩ := World.ownsRow.form h (by omega)
  have hO : w.ownsRow base 23 2 (.slice (some ⟨g, 0, none⟩) L.length c) L.length (pairV L) := by rw [← e]; exact h
  have f := pairV_at L i hi
  exact ⟨g, c, e, hb, (World.ownsRow.cellAt hO _ (by omega)).trans f.1, (World.ownsRow.cellAt hO _ (by omega)).trans f.2⟩

theorem RowE.grown {base : Nat} {v : Value} {L : List (Int × Int)} {w w' : World} {r : Option Nat} (h : RowE base v L w) (hg : w.grownBy w' r) (hr : v.ownBlock ≠ r) : RowE base v L w' := World.ownsRow.kept h hg (.inr hr)

theorem infoEQ : (Tryz.prog.info? 23).map (fun i => (i.zero, i.size, i.bytes)) = some (some (.agg #[.int .i64 0, .int .i64 0]), 2, 16) := by kernel_rfl

theorem pair_lie (w : World) (x y : Int) (e : TypeId) : ∀ j u, ([.int .i64 x, .int .i64 y] : List Value)[j]? = some u → (w.alloc (.cells #[.int .i64 x, .int .i64 y] e)).cell? ((⟨w.heap.size, 0, none⟩ : Addr).add j) = some u := by
  intro j u hj
  match j, hj with
  | 0, hj => simp at hj; subst hj; simp [Addr.add]
  | 1, hj => simp at hj; subst hj; simp [Addr.add]

theorem pair_one (x y : Int) : ∀ u ∈ ([.int .i64 x, .int .i64 y] : List Value), u.oneCell' = true := by
  intro u hu
  simp at hu
  rcases hu with rfl | rfl <;> rfl

/-- The nearest, and its neighbours. -/
def arL (p q : Int) (j : Nat) : List (Int × Int) := (p, q) :: (List.range j).map fun i => (p + uA i, q + uB i)

theorem arL_len (p q : Int) (j : Nat) : (arL p q j).length = j + 1 := by simp [arL]

theorem arL_step (p q : Int) (j : Nat) : arL p q (j + 1) = arL p q j ++ [(p + uA j, q + uB j)] := by
  unfold arL
  rw [List.range_succ, List.map_append]
  rfl

theorem arL_around {K : Nat} (hK : K ≤ 12) {x y p q a b : Int} (hn : Nearest (dvK K) (nuA K x y) (nuB K x y) p q) (h : Tou K x y x y a b) : (a, b) ∈ arL p q 6 := by
  unfold arL
  rcases point_around hK hn h with ⟨rfl, rfl⟩ | ⟨i, hi, rfl, rfl⟩
  · exact List.mem_cons_self ..
  · exact List.mem_cons_of_mem _ (List.mem_map.2 ⟨i, List.mem_range.2 hi, rfl⟩)

set_option maxHeartbeats 8000000 in
set_option maxRecDepth 100000 in
theorem q_around (x y r p q : Int) (K : Nat) (hK : K ≤ 12) (hr : 12 - r = (K : Int)) (hw : InW x y) (hn : Nearest (dvK K) (nuA K x y) (nuB K x y) p q) (w : World) (hU : Uni w) :
    Calls Tryz.prog 69 #[.agg #[.int .i64 x, .int .i64 y], .int .i64 r] w fun e w' => (∃ v, e = .returned v ∧ RowE w.heap.size v (arL p q 6) w') ∧ Below w.heap.size w w' := by
  have hp := near_tame hK hw hn
  have NE := hidd fun w => pnear_at x y r K hK hr hw p q hn w
  have NB := hidd fun (j : Nat) (hj : j < 6) w hU => q_neigh p q j hj (by omega) (by omega) w hU
  have HU := hidd hU
  clear hU hn hw hr
  obtain ⟨i0, hi, hz0, hz1, hz2⟩ := info_partsQ infoEQ
  go_enter Tryz.func69, Tryz.ntmps69
  go_wp2_with fail
  refine (NE.out _).mono ?_
  rintro e w1 ⟨rfl, b1⟩
  have B1 := hidd (belowT (allocB w (.cells #[.int .i64 x, .int .i64 y] 38)) b1)
  clear NE b1
  go_wp2_with fail
  have al1 := allocB w1 (.cells #[.int .i64 p, .int .i64 q] 23)
  have al2 := allocB (w1.alloc (.cells #[.int .i64 p, .int .i64 q] 23)) (.cells #[.int .i64 p, .int .i64 q] 23)
  have z0 : ((w1.alloc (.cells #[.int .i64 p, .int .i64 q] 23)).alloc (.cells #[.int .i64 p, .int .i64 q] 23)).cell? ⟨w1.heap.size, 0, none⟩ = some (.int .i64 p) := by go_simp
  have z1 : ((w1.alloc (.cells #[.int .i64 p, .int .i64 q] 23)).alloc (.cells #[.int .i64 p, .int .i64 q] 23)).cell? ⟨w1.heap.size, 1, none⟩ = some (.int .i64 q) := by go_simp
  have B2 := hidd (belowT (belowT B1.out al1) al2)
  have hs1 := B1.out.size
  have O2 : RowE (w1.heap.size + 1) (.slice (some ⟨w1.heap.size + 1, 0, none⟩) 1 1) (arL p q 0) ((w1.alloc (.cells #[.int .i64 p, .int .i64 q] 23)).alloc (.cells #[.int .i64 p, .int .i64 q] 23)) := by
    have := World.ownsRow_lit (base := w1.heap.size + 1) (e := 23) (size := 2) (w1.alloc (.cells #[.int .i64 p, .int .i64 q] 23)) #[.int .i64 p, .int .i64 q] 1 (by simp) (by decide) rfl
    simpa [RowE, arL, pairV] using this
  have O2 := hidd O2
  clear al1 al2 B1
  generalize (w1.alloc (.cells #[.int .i64 p, .int .i64 q] 23)).alloc (.cells #[.int .i64 p, .int .i64 q] 23) = w2 at *
  go_loopw [7, 20] (fun v7 v20 wr => ∃ j : Nat, j ≤ 6 ∧ v20 = .int .i64 (j : Int) ∧ Hid (RowE (w1.heap.size + 1) v7 (arL p q j) wr) ∧ (wr.cell? ⟨w1.heap.size, 0, none⟩ = some (.int .i64 p) ∧ wr.cell? ⟨w1.heap.size, 1, none⟩ = some (.int .i64 q)) ∧ Hid (Below w.heap.size w wr)) (fun _ v20 _ => 6 - (intOf v20).toNat)
  case atStart => exact ⟨0, by omega, rfl, O2, ⟨z0, z1⟩, B2⟩
  case round =>
    clear z0 z1 O2 B2
    obtain ⟨j, hj, rfl, OW, ⟨z0, z1⟩, B⟩ := hrel
    obtain ⟨vp, vc, rfl⟩ := OW.out.any
    have hl := arL_len p q j
    rw [hl]
    by_cases hj6 : j < 6
    · have hj6' : (j : Int) < 6 := by omega
      have N1 := hidd (NB.out j hj6 wr (HU.out.below B.out))
      have ST := hidd (arL_step p q j)
      generalize p + uA j = a at *
      generalize q + uB j = b at *
      go_wp2_with fail
      refine N1.out.mono ?_
      rintro e w3 ⟨rfl, b3⟩
      replace z0 := keepCell b3 z0
      replace z1 := keepCell b3 z1
      replace OW := hidd (OW.out.keep b3)
      replace B := hidd (belowT B.out b3)
      have hs3 := B.out.size
      have lz := World.block_lt_of_cell? _ _ z0
      simp only at lz
      have al := allocB w3 (.cells #[.int .i64 a, .int .i64 b] 23)
      have O3 : Hid (w3.ownsRow (w1.heap.size + 1) 23 2 (.slice vp (j + 1) vc) (j + 1) (pairV (arL p q j))) := hidd (by have := OW.out; unfold RowE at this; rw [hl] at this; exact this)
      clear N1 b3 OW
      go_wp2_with (at_builtin; refine wpList_append_lies _ rfl (.tmp 23) (.tmp 27) 76 rfl (w1.heap.size + 1) 23 i0 (.agg #[.int .i64 0, .int .i64 0]) 2 16 Tryz.underlying76 hi hz0 hz1 hz2 rfl (by decide) (.slice vp (j + 1) vc) _ _ rfl (own_keep (allocB _ _) O3.out) ⟨w3.heap.size, 0, none⟩ 1 1 [.int .i64 a, .int .i64 b] rfl rfl (pair_lie _ _ _ _) (pair_one _ _) (by decide) (by unfold maxLen; omega) (by omega) (by simp; omega) (w3.heap.size + 1) (by simp) ?_; intro g6 q6 w6 hown hgrow hat hlt6)
      have R6 : Hid (RowE (w1.heap.size + 1) (.slice (some ⟨g6, 0, none⟩) (j + 1 + 1) q6) (arL p q (j + 1)) w6) := hidd (by
        unfold RowE
        rw [arL_len, ST.out, pairV_app, pairV_one]
        exact hown)
      have hne : ∀ k, (Value.slice vp (j + 1) vc).ownBlock = some k → w1.heap.size + 1 ≤ k := fun k e => (World.ownsRow.lt O3.out k e).1
      have nz : some w1.heap.size ≠ (Value.slice vp (j + 1) vc).ownBlock := fun e => by have := hne _ e.symm; omega
      replace z0 := hgrow.cell (a := ⟨w1.heap.size, 0, none⟩) (keepCell al z0) nz
      replace z1 := hgrow.cell (a := ⟨w1.heap.size, 1, none⟩) (keepCell al z1) nz
      have B6 := hidd ((belowT B.out al).grown hgrow (by simp; omega) (fun k e => by have := hne k e; omega))
      clear hown hgrow hat al B O3 hne nz
      go_roundw
      case rel => exact ⟨j + 1, by omega, by go_num, R6, ⟨z0, z1⟩, B6⟩
      case measure => simp [intOf]; omega
    · obtain rfl : j = 6 := by omega
      have hj6' : decide (((6 : Nat) : Int) < 6) = false := by decide
      go_wp2
      go_ret
      exact ⟨⟨_, rfl, by have := own_mono OW.out (show w.heap.size ≤ w1.heap.size + 1 by omega); rw [hl] at this; exact this⟩, B.out⟩

end Go.Proofs.YtdklpgphmoaniaaGreatDoor
