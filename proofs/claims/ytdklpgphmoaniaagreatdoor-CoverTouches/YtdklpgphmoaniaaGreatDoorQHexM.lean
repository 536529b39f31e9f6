/-
  Plain facts on hexagons and boxes as outlines: how far off an Ok cell's corners are; when no edge of the one leaves the other out.
-/
import Derived.Test.YtdklpgphmoaniaaGreatDoorQOut
import Derived.Test.YtdklpgphmoaniaaGreatDoorProg
import Derived.Handy
import Derived.Deep.QuietTactic
import Derived.WalkSpells
import Derived.WalkLawsBesides
import Derived.BigQuiet
import Derived.PlainAid
import Derived.Deep.RegionWith
import Derived.Laws.BitsAllLaws
import Derived.Sort.LotA
import Derived.Sort.LotB
import Derived.Deep.RegionHeld3
import Derived.WalkSmall
import Derived.Deep.CutRange
import Derived.BigRegion
import Derived.OwnWalk
import Derived.Laws.OwnMore
import Derived.OneCell
import Derived.Laws.CopyOwn
import Derived.Sort.Row
import Derived.Sort.WalkB3
import Derived.Laws.StructEq
import Derived.Deep.AppendLies
import Derived.Deep.RegionLaw
import Derived.RangeFuncFrom
import Derived.RangeFuncCalls
import Derived.RangeFuncLeaves
import Derived.WalkKit
import Derived.OwnWalkIn
import Derived.TacticsInMore
import Derived.LoopNIn
import Derived.LoopIn
import Derived.RegionIn
import Derived.Stop.RegionWithIn
import Derived.Test.YtdklpgphmoaniaaGreatDoorRows
import Derived.LaidMore
import Derived.Stop.LaidErr
namespace Go.Proofs.YtdklpgphmoaniaaGreatDoor
open Go.RowKit

theorem ct_norm (K : Nat) (a b : Int) : normE (ctA K a b) (ctB K a b) = sev K * normE a b := by unfold sev normE ctA ctB; grind

theorem hex_fin : ∀ i : Fin 13, decide (0 ≤ sev (12 - i.val) ∧ 4 * (sev (12 - i.val) * ((585 * dnN i.val + 12480) / 64)) < 3 * (440509001 * 440509001)) = true := by decide +kernel

theorem side_fin : ∀ i : Fin 13, ∀ j : Fin 6, decide ((-436207616 ≤ 45 * poX i.val (sA j.val) (sB j.val) ∧ 45 * poX i.val (sA j.val) (sB j.val) ≤ 436207616) ∧ (-754974720 ≤ 78 * poY i.val (sA j.val) (sB j.val) ∧ 78 * poY i.val (sA j.val) (sB j.val) ≤ 754974720)) = true := by decide +kernel

theorem way_norm (j : Nat) (hj : j < 6) : normE (wayA j) (wayB j) = 3 := by
  obtain rfl | rfl | rfl | rfl | rfl | rfl : j = 0 ∨ j = 1 ∨ j = 2 ∨ j = 3 ∨ j = 4 ∨ j = 5 := by omega
  all_goals rfl

theorem hv_box {r a b : Int} (h : Ok4 r a b) {j : Nat} (hj : j < 6) : (-34359738368 ≤ (hv (12 - r).toNat a b j).1 ∧ (hv (12 - r).toNat a b j).1 ≤ 34359738368) ∧ (-34359738368 ≤ (hv (12 - r).toNat a b j).2 ∧ (hv (12 - r).toNat a b j).2 ≤ 34359738368) := by
  obtain ⟨h0, h1, -, -, h2, h3⟩ := h
  have hN := norm_in (x := (ups r.toNat a b).1) (y := (ups r.toNat a b).2) (B := 512) (by unfold InBase at h2 h3; exact ⟨by omega, by omega, by omega, by omega⟩)
  have hd := ups_norm_down r.toNat (a := a) (b := b) (by omega)
  have hf := of_decide_eq_true (hex_fin ⟨r.toNat, by omega⟩)
  have eK : 12 - r.toNat = (12 - r).toNat := by omega
  simp only [eK] at hf
  have hw := norm_weigh' (3 * a) (3 * b) (wayA j) (wayB j)
  rw [way_norm j hj] at hw
  have e9 : normE (3 * a) (3 * b) = 9 * normE a b := by unfold normE; grind
  rw [e9] at hw
  have hm := Int.mul_le_mul_of_nonneg_left (show normE (3 * a + wayA j) (3 * b + wayB j) ≤ (585 * dnN r.toNat + 12480) / 64 by omega) hf.1
  have hq := sq_part (a := ctA (12 - r).toNat (3 * a + wayA j) (3 * b + wayB j)) (b := ctB (12 - r).toNat (3 * a + wayA j) (3 * b + wayB j)) (N := sev (12 - r).toNat * ((585 * dnN r.toNat + 12480) / 64)) (B := 440509000) (by rw [ct_norm]; exact hm) (by omega) hf.2
  unfold hv coX coY poX poY
  simp only
  omega

/-- The edges of a ring of six. -/
def exL (G : Nat → Int × Int) (n : Nat) : List Ed := (List.range n).map fun i => (G i, ((G (nx i)).1 - (G i).1, (G (nx i)).2 - (G i).2))

theorem exL_len (G : Nat → Int × Int) (n : Nat) : (exL G n).length = n := by simp [exL]

theorem exL_step (G : Nat → Int × Int) (n : Nat) : exL G (n + 1) = exL G n ++ [(((G n).1, (G n).2), ((G (nx n)).1 - (G n).1, (G (nx n)).2 - (G n).2))] := by
  unfold exL
  rw [List.range_succ, List.map_append]
  rfl

theorem ex_box {r a b : Int} (h : Ok4 r a b) : ∀ e ∈ exL (hv (12 - r).toNat a b) 6, EdB e := by
  intro e he
  obtain ⟨i, hi, rfl⟩ := List.mem_map.1 he
  have hi6 : i < 6 := List.mem_range.1 hi
  refine ⟨hv_box h hi6, ?_⟩
  have hs := side_way (12 - r).toNat a b hi6
  have hK : (12 - r).toNat < 13 := by have := h.1; omega
  have hf := of_decide_eq_true (side_fin ⟨(12 - r).toNat, hK⟩ ⟨i, hi6⟩)
  simp only at hf ⊢
  omega

/-- The edges of a box, in thirds. -/
def sdL (l1 l2 u1 u2 : Int) : List Ed := [((3 * l1, 3 * l2), (1, 0)), ((3 * u1, 3 * l2), (0, 1)), ((3 * u1, 3 * u2), (-1, 0)), ((3 * l1, 3 * u2), (0, -1))]

theorem sd_boxQ {l1 l2 u1 u2 : Int} (h1 : -2147483648 ≤ l1 ∧ l1 ≤ 2147483648) (h2 : -2147483648 ≤ l2 ∧ l2 ≤ 2147483648) (h3 : -2147483648 ≤ u1 ∧ u1 ≤ 2147483648) (h4 : -2147483648 ≤ u2 ∧ u2 ≤ 2147483648) : ∀ e ∈ sdL l1 l2 u1 u2, EdB e := by
  intro e he
  simp only [sdL, List.mem_cons, List.not_mem_nil, or_false] at he
  rcases he with rfl | rfl | rfl | rfl <;> (unfold EdB; simp only; omega)

theorem out_not {M L : List Ed} : outB M L = false ↔ ∀ e ∈ M, ∃ f ∈ L, kpB e f = true := by
  unfold outB hasB
  rw [List.any_eq_false]
  constructor
  · intro h e he
    have := h e he
    rw [Bool.not_eq_true, Bool.not_eq_false', List.any_eq_true] at this
    exact this
  · intro h e he
    have := h e he
    rw [Bool.not_eq_true, Bool.not_eq_false', List.any_eq_true]
    exact this

theorem kp_crs (G : Nat → Int × Int) (i : Nat) (f : Ed) : kpB (G i, ((G (nx i)).1 - (G i).1, (G (nx i)).2 - (G i).2)) f = true ↔ 0 ≤ crs (G i) (G (nx i)) f.1.1 f.1.2 := by
  unfold kpB crs
  simp only [decide_eq_true_eq]
  omega

theorem out_hex (G : Nat → Int × Int) (l1 l2 u1 u2 : Int) : outB (exL G 6) (sdL l1 l2 u1 u2) = false ↔
    ∀ i, i < 6 → 0 ≤ crs (G i) (G (nx i)) (3 * l1) (3 * l2) ∨ 0 ≤ crs (G i) (G (nx i)) (3 * u1) (3 * l2) ∨ 0 ≤ crs (G i) (G (nx i)) (3 * u1) (3 * u2) ∨ 0 ≤ crs (G i) (G (nx i)) (3 * l1) (3 * u2) := by
  rw [out_not]
  constructor
  · intro h i hi
    obtain ⟨f, hf, k⟩ := h _ (List.mem_map.2 ⟨i, List.mem_range.2 hi, rfl⟩)
    rw [kp_crs] at k
    simp only [sdL, List.mem_cons, List.not_mem_nil, or_false] at hf
    rcases hf with rfl | rfl | rfl | rfl
    · exact .inl k
    · exact .inr (.inl k)
    · exact .inr (.inr (.inl k))
    · exact .inr (.inr (.inr k))
  · intro h e he
    obtain ⟨i, hi, rfl⟩ := List.mem_map.1 he
    rcases h i (List.mem_range.1 hi) with k | k | k | k
    · exact ⟨((3 * l1, 3 * l2), (1, 0)), by simp [sdL], (kp_crs G i _).2 k⟩
    · exact ⟨((3 * u1, 3 * l2), (0, 1)), by simp [sdL], (kp_crs G i _).2 k⟩
    · exact ⟨((3 * u1, 3 * u2), (-1, 0)), by simp [sdL], (kp_crs G i _).2 k⟩
    · exact ⟨((3 * l1, 3 * u2), (0, -1)), by simp [sdL], (kp_crs G i _).2 k⟩

theorem out_side (G : Nat → Int × Int) (l1 l2 u1 u2 : Int) : outB (sdL l1 l2 u1 u2) (exL G 6) = false ↔
    (∃ i, i < 6 ∧ 3 * l2 ≤ (G i).2) ∧ (∃ i, i < 6 ∧ (G i).1 ≤ 3 * u1) ∧ (∃ i, i < 6 ∧ (G i).2 ≤ 3 * u2) ∧ (∃ i, i < 6 ∧ 3 * l1 ≤ (G i).1) := by
  rw [out_not]
  have key : ∀ e : Ed, (∃ f ∈ exL G 6, kpB e f = true) ↔ ∃ i, i < 6 ∧ e.2.2 * ((G i).1 - e.1.1) ≤ e.2.1 * ((G i).2 - e.1.2) := fun e => by
    constructor
    · rintro ⟨f, hf, k⟩
      obtain ⟨i, hi, rfl⟩ := List.mem_map.1 hf
      exact ⟨i, List.mem_range.1 hi, of_decide_eq_true k⟩
    · rintro ⟨i, hi, k⟩
      exact ⟨_, List.mem_map.2 ⟨i, List.mem_range.2 hi, rfl⟩, decide_eq_true k⟩
  simp only [key, sdL, List.forall_mem_cons, List.not_mem_nil, false_implies, implies_true, and_true]
  constructor
  · rintro ⟨⟨i, hi, k⟩, ⟨i2, hi2, k2⟩, ⟨i3, hi3, k3⟩, i4, hi4, k4⟩
    exact ⟨⟨i, hi, by omega⟩, ⟨i2, hi2, by omega⟩, ⟨i3, hi3, by omega⟩, i4, hi4, by omega⟩
  · rintro ⟨⟨i, hi, k⟩, ⟨i2, hi2, k2⟩, ⟨i3, hi3, k3⟩, i4, hi4, k4⟩
    exact ⟨⟨i, hi, by omega⟩, ⟨i2, hi2, by omega⟩, ⟨i3, hi3, by omega⟩, i4, hi4, by omega⟩

/-- Neither leaves the other out: just where they are unparted. -/
theorem out_both (G : Nat → Int × Int) (l1 l2 u1 u2 : Int) : (outB (exL G 6) (sdL l1 l2 u1 u2) = false ∧ outB (sdL l1 l2 u1 u2) (exL G 6) = false) ↔ Unparted G (3 * l1) (3 * l2) (3 * u1) (3 * u2) := by
  rw [out_hex, out_side]
  unfold Unparted
  constructor
  · rintro ⟨h, k1, k2, k3, k4⟩
    exact ⟨⟨k4, k2⟩, ⟨k1, k3⟩, h⟩
  · rintro ⟨⟨k4, k2⟩, ⟨k1, k3⟩, h⟩
    exact ⟨h, k1, k2, k3, k4⟩

theorem touch_eq {K : Nat} (hK : K ≤ 12) {a b l1 l2 u1 u2 : Int} (h1 : l1 ≤ u1) (h2 : l2 ≤ u2) : (outB (exL (hv K a b) 6) (sdL l1 l2 u1 u2) = false ∧ outB (sdL l1 l2 u1 u2) (exL (hv K a b) 6) = false) ↔ Tou K l1 l2 u1 u2 a b := by
  rw [out_both]
  exact ⟨fun h => meets_of (hv_bent hK a b) (by omega) (by omega) h, fun h => unparted_of (hv_bent hK a b) h⟩

end Go.Proofs.YtdklpgphmoaniaaGreatDoor
