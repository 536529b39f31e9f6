/-
  What the document's own Neighbours, Distance, Ring and Disk tell: the same words as the program's, rising; what is refused; for small radii, in whatever memory.
-/
import Derived.Test.YtdklpgphmoaniaaGreatDoorRBeside
import Derived.Laws.BitsAllLaws
import Derived.Handy
import Derived.Deep.QuietTactic
import Derived.Test.YtdklpgphmoaniaaGreatDoorProg
import Derived.WalkSpells
import Derived.WalkLawsBesides
import Derived.BigQuiet
import Derived.PlainAid
import Derived.Deep.RegionWith
import Derived.Deep.RegionHeld3
import Derived.WalkSmall
import Derived.Deep.CutRange
import Derived.BigRegion
import Derived.OwnWalk
import Derived.Laws.OwnMore
import Derived.OneCell
import Derived.Laws.CopyOwn
import Derived.Sort.Row
import Derived.Sort.LotD3
import Derived.Deep.Cut
import Derived.Deep.LoopGhost
import Derived.Sort.WalkA6
import Derived.Sort.Walk13a
import Derived.Sort.LotA
import Derived.Sort.LotB
import Derived.Sort.LotD1
import Derived.Deep.Draws
import Derived.WalkKit
import Derived.BigGuard
import Derived.BigCall
import Derived.CellFam
import Derived.Sort.WalkB3
import Derived.Deep.RegionLaw
import Derived.RangeFuncFrom
import Derived.RangeFuncCalls
import Derived.RangeFuncLeaves
import Derived.OwnWalkIn
import Derived.TacticsInMore
import Derived.LoopNIn
import Derived.LoopIn
import Derived.RegionIn
import Derived.Stop.RegionWithIn
namespace Go.Proofs.YtdklpgphmoaniaaGreatDoor
open Go.RowKit

theorem keepThree {w0 a b : World} {p0 p1 p2 : Addr} {v0 v1 v2 : Value} (hb : Below a.heap.size a b) (h : a.cell? p0 = some v0 ∧ a.cell? p1 = some v1 ∧ a.cell? p2 = some v2 ∧ Below w0.heap.size w0 a) :
    b.cell? p0 = some v0 ∧ b.cell? p1 = some v1 ∧ b.cell? p2 = some v2 ∧ Below w0.heap.size w0 b :=
  ⟨keepCell hb h.1, keepCell hb h.2.1, keepCell hb h.2.2.1, belowT h.2.2.2 hb⟩

/-- What the document tells of a part of the lattice about a word's cell. -/
def RefSay (v : Int) (Q : Int × Int → Prop) (e : Ending) (w : World) : Prop := ∃ (s : Value) (L : List Int), e = .returned (.tuple #[s, .int .i64 0]) ∧ RowAt 0 w s L ∧ Rising L ∧ (∀ x, x ∈ L ↔ ∃ p q, Q (p, q) ∧ Ok4 (wR v) (cellA v + p) (cellB v + q) ∧ x = wordOf (wR v).toNat (cellA v + p) (cellB v + q)) ∧ L.length ≤ 1000

theorem words_iff {r : Nat} {a b : Int} {P : List (Int × Int)} {Q : Int × Int → Prop} (h : ∀ x, x ∈ P ↔ Q x) (x : Int) : x ∈ wordsAt r a b P ↔ ∃ p q, Q (p, q) ∧ Ok4 (r : Int) (a + p) (b + q) ∧ x = wordOf r (a + p) (b + q) := by
  rw [mem_wordsAt]
  constructor
  · rintro ⟨p, q, h1, h2⟩; exact ⟨p, q, (h _).1 h1, h2⟩
  · rintro ⟨p, q, h1, h2⟩; exact ⟨p, q, (h _).2 h1, h2⟩

/-- One row: the program's and the document's. -/
theorem Rows.ref {v : Int} {P : List (Int × Int)} {L M : List Int} {Q : Int × Int → Prop} (h : Rows (wR v).toNat (cellA v) (cellB v) P L) (hP : ∀ x, x ∈ P ↔ Q x) (hM : Rising M) (hm : ∀ x, x ∈ M ↔ ∃ p q, Q (p, q) ∧ Ok4 (wR v) (cellA v + p) (cellB v + q) ∧ x = wordOf (wR v).toNat (cellA v + p) (cellB v + q)) : L = M := by
  refine rising_ext h.2 hM fun x => ?_
  have hr := wR_box v
  rw [h.1.mem_iff, words_iff hP, hm, show (((wR v).toNat : Nat) : Int) = wR v by omega]

/-- Which place is a Unit. -/
theorem unit_iff (x : Int × Int) : x ∈ (List.range 6).map (fun i => (uA i, uB i)) ↔ stp x.1 x.2 = 1 := by
  rw [stp_iff (by omega)]
  constructor
  · intro h
    obtain ⟨i, hi, rfl⟩ := List.mem_map.1 h
    rcases six_cases (List.mem_range.1 hi) with rfl | rfl | rfl | rfl | rfl | rfl <;> decide
  · intro h
    rw [List.mem_map]
    have : (x.1 = 1 ∧ x.2 = 0) ∨ (x.1 = 0 ∧ x.2 = 1) ∨ (x.1 = -1 ∧ x.2 = 1) ∨ (x.1 = -1 ∧ x.2 = 0) ∨ (x.1 = 0 ∧ x.2 = -1) ∨ (x.1 = 1 ∧ x.2 = -1) := by omega
    rcases this with h | h | h | h | h | h
    · exact ⟨0, by decide, Prod.ext h.1.symm h.2.symm⟩
    · exact ⟨1, by decide, Prod.ext h.1.symm h.2.symm⟩
    · exact ⟨2, by decide, Prod.ext h.1.symm h.2.symm⟩
    · exact ⟨3, by decide, Prod.ext h.1.symm h.2.symm⟩
    · exact ⟨4, by decide, Prod.ext h.1.symm h.2.symm⟩
    · exact ⟨5, by decide, Prod.ext h.1.symm h.2.symm⟩

set_option maxHeartbeats 8000000 in
set_option maxRecDepth 20000 in
theorem rneigh_yes (v : Int) (hv : Whole v) (w : World) :
    Calls Tryz.prog 54 #[.int .u64 v] w fun e w' => RefSay v (fun x => stp x.1 x.2 = 1) e w' ∧ Below w.heap.size w w' := by
  have CE := hidd (rwcell_yes v hv)
  have p1 := ok4_part (cell_ok hv)
  have hr := wR_box v
  obtain ⟨r, er⟩ : ∃ r : Nat, wR v = r := ⟨(wR v).toNat, by omega⟩
  have FIN : Hid (∀ (s : Value) (L : List Int) (C : Nat) (w' : World), (Rising L ∧ (∀ x, x ∈ L ↔ x ∈ wordsAt r (cellA v) (cellB v) ((List.range 6).map fun i => (uA i, uB i))) ∧ L.length ≤ 1000 ∧ RowAt C w' s L) → RefSay v (fun x => stp x.1 x.2 = 1) (.returned (.tuple #[s, .int .i64 0])) w') := by
    refine hidd fun s L C w' ⟨h1, h2, h3, h4⟩ => ⟨s, L, rfl, h4.mono (Nat.zero_le _), h1, fun x => ?_, h3⟩
    rw [h2 x, er, show ((r : Int)).toNat = r by omega]
    exact words_iff (Q := fun x => stp x.1 x.2 = 1) (fun x => unit_iff x) x
  rw [er] at CE
  have BE : Hid (∀ (v' : Value) (w : World), PRow w v' ((List.range 6).map fun i => (uA i, uB i)) → _) := hidd (fun v' w h => rbeside r (cellA v) (cellB v) (by omega) (by omega) ((List.range 6).map fun i => (uA i, uB i)) (by simp) (fun x hx => by have := (unit_iff x).1 hx; omega) v' w h)
  have UN : Hid (∀ k : Nat, k < 6 → ∀ w, Calls Tryz.prog 41 #[.int .i64 (k : Int)] w fun e w' => e = .returned (.agg #[.int .i64 (uA k), .int .i64 (uB k)]) ∧ Below w.heap.size w w') := by
    refine hidd fun k hk w => ?_
    have := refunit_any (k : Int) w
    rw [show (k : Int) % 6 = k by omega] at this
    have hu : unitA (k : Int) = uA k ∧ unitB (k : Int) = uB k := by rcases six_cases hk with rfl | rfl | rfl | rfl | rfl | rfl <;> decide
    rwa [hu.1, hu.2] at this
  obtain ⟨i0, hi', hz0, hz1, hz2⟩ := info_parts infoE
  generalize cellA v = a at *
  generalize cellB v = b at *
  clear hv p1 hr er
  go_enter Tryz.func54, Tryz.ntmps54
  go_wp2_with fail
  refine (CE.out _).mono ?_
  rintro e w1 ⟨rfl, d1⟩
  have c1 : Below w.heap.size w w1 := Below.trans (by go_grown) (d1.mono (by simp; try omega))
  have hB := c1
  clear c1 d1
  have z0 : (w1.alloc (.cells #[.int .i64 r, .int .i64 a, .int .i64 b] 25)).cell? ⟨w1.heap.size, 0, none⟩ = some (.int .i64 r) := by go_simp
  have z1 : (w1.alloc (.cells #[.int .i64 r, .int .i64 a, .int .i64 b] 25)).cell? ⟨w1.heap.size, 1, none⟩ = some (.int .i64 a) := by go_simp
  have z2 : (w1.alloc (.cells #[.int .i64 r, .int .i64 a, .int .i64 b] 25)).cell? ⟨w1.heap.size, 2, none⟩ = some (.int .i64 b) := by go_simp
  have hwb := belowT hB (allocB w1 (.cells #[.int .i64 r, .int .i64 a, .int .i64 b] 25))
  have hWs : (w1.alloc (.cells #[.int .i64 r, .int .i64 a, .int .i64 b] 25)).heap.size = w1.heap.size + 1 := by simp
  go_wp2_with fail
  generalize (w1.alloc (.cells #[.int .i64 r, .int .i64 a, .int .i64 b] 25)) = W at z0 z1 z2 hwb hWs ⊢
  have hWl : w.heap.size ≤ w1.heap.size := hB.size
  generalize w1.heap.size = M at z0 z1 z2 hWs hWl ⊢
  clear hB CE
  go_loopw [6, 7] (fun v6 v7 wr => ∃ k : Nat, k ≤ 6 ∧ v7 = .int .i64 (k : Int) ∧ Hid (wr.ownsRow (M + 1) 23 2 v6 k (pvals ((List.range k).map fun i => (uA i, uB i)))) ∧ Below (M + 1) W wr) (fun _ v7 _ => 6 - (intOf v7).toNat)
  case atStart => exact ⟨0, by omega, rfl, World.ownsRow_nil _ _ _ _, Below.refl _ _⟩
  case round =>
    obtain ⟨k, hk, rfl, hO, hB⟩ := hrel
    have y0 := keepLow hB z0 (Nat.lt_succ_self _)
    have y1 := keepLow hB z1 (Nat.lt_succ_self _)
    have y2 := keepLow hB z2 (Nat.lt_succ_self _)
    by_cases hlt : k < 6
    · have UK := hidd (UN.out k hlt)
      have hv : Hid (pvals ((List.range (k + 1)).map fun i => (uA i, uB i)) = pvals ((List.range k).map fun i => (uA i, uB i)) ++ [.int .i64 (uA k), .int .i64 (uB k)]) := hidd (by rw [List.range_succ, List.map_append]; exact pvals_step _ _ _)
      generalize uA k = X at *
      generalize uB k = Y at *
      clear y0 y1 y2
      go_wp2_with fail
      refine (UK.out wr).mono ?_
      rintro e w3 ⟨rfl, hb1⟩
      have hO1 := hidd (own_keep hb1 hO.out)
      have hB1 := hB.trans (hb1.mono (by have := hB.size; omega))
      have hws : M + 1 ≤ w3.heap.size := by have := hB1.size; omega
      clear hO hB hb1 UK
      go_wp2_with (at_builtin; refine wpList_append_own _ rfl (.tmp 20) (.tmp 23) 76 rfl (M + 1) 23 i0 (.agg #[.int .i64 0, .int .i64 0]) 2 16 Tryz.underlying76 hi' hz0 hz1 hz2 rfl (by decide) _ _ _ rfl (own_keep (allocB _ _) hO1.out) ⟨w3.heap.size, 0, none⟩ 1 1 [.int .i64 X, .int .i64 Y] rfl rfl (pair_lies _ _ rfl _ _ _) (pair_int _ _) (by unfold maxLen; omega) (by omega) (by simp; omega) ?_)
      intro v' w5 hown hgrow _
      have hB5 := (hB1.alloc hws (.cells #[.int .i64 X, .int .i64 Y] 23)).grown hgrow (by simp; omega) (own_block hO1.out)
      have hO5 : Hid (w5.ownsRow (M + 1) 23 2 v' (k + 1) (pvals ((List.range (k + 1)).map fun i => (uA i, uB i)))) := hidd (by rw [hv.out]; exact hown)
      clear hown hgrow hO1 hB1 hws hv
      go_wp2
      go_roundw
      case rel => exact ⟨k + 1, by omega, by go_num, hO5, hB5⟩
      case measure => simp [intOf]; omega
    · obtain rfl : k = 6 := by omega
      have PR : PRow wr u6 ((List.range 6).map fun i => (uA i, uB i)) := own_prow (base := M + 1) (by rw [List.length_map, List.length_range]; exact hO.out)
      have BK := hidd (BE.out u6 wr PR)
      have hBw := hwb.trans (hB.mono (by omega))
      clear hO PR BE UN hB
      go_wp2_with fail
      refine BK.out.mono ?_
      rintro e w3 ⟨⟨s, L, rfl, q⟩, hb3⟩
      have HR := hidd (FIN.out s L _ w3 q)
      have hB3 := belowT hBw hb3
      clear q FIN BK
      go_wp2
      go_ret2
      exact ⟨HR.out, hB3⟩

set_option maxHeartbeats 2000000 in
theorem rneigh_no (v : Int) (hv : U64 v) (h : ¬ Whole v) (w : World) :
    Calls Tryz.prog 54 #[.int .u64 v] w fun e w' => e = .returned (.tuple #[.slice none 0 0, .int .i64 5]) ∧ Below w.heap.size w w' := by
  have CE := hidd (rwcell_no v hv h)
  go_enter Tryz.func54, Tryz.ntmps54
  go_wp2_with fail
  refine (CE.out _).mono ?_
  rintro e w1 ⟨rfl, d1⟩
  have c1 : Below w.heap.size w w1 := Below.trans (by go_grown) (d1.mono (by simp; try omega))
  have hB := c1
  clear c1 d1
  go_wp2
  go_ret2
  exact ⟨rfl, belowT hB (by go_grown)⟩

end Go.Proofs.YtdklpgphmoaniaaGreatDoor
