/-
  What the document's own Touches tells: whether a cell that may be and a box, not too far away, have a point in common; in whatever memory.
-/
import Derived.Test.YtdklpgphmoaniabGreatDoorPHexX
import Derived.Test.YtdklpgphmoaniabGreatDoorCovHex
import Derived.Test.YtdklpgphmoaniabGreatDoorProg
import Derived.Handy
import Derived.Deep.QuietTactic
import Derived.WalkSpells
import Derived.WalkLawsBesides
import Derived.BigQuiet
import Derived.PlainAid
import Derived.Deep.RegionWith
import Derived.Laws.BitsAllLaws
import Derived.Deep.RegionHeld3
import Derived.WalkSmall
import Derived.WalkKit
import Derived.OwnWalk
import Derived.Laws.OwnMore
import Derived.Deep.CutRange
import Derived.BigRegion
import Derived.OneCell
import Derived.Laws.CopyOwn
import Derived.Sort.Row
import Derived.Lib.MinMax
namespace Go.Proofs.YtdklpgphmoaniabGreatDoor
open Go.RowKit

/-- Too far away to be asked of. -/
def FarT (x y : Int) : Prop := x < -2147483648 ∨ 2147483648 < x ∨ y < -2147483648 ∨ 2147483648 < y

def sgT (n : Int) : Int := if n < 0 then -1 else if 0 < n then 1 else 0

theorem sgT_eq {p q : Int × Int} {x y : Int} : sgT (crs p q x y) = if decide ((q.1 - p.1) * (y - p.2) < (q.2 - p.2) * (x - p.1)) = true then -1 else if decide ((q.2 - p.2) * (x - p.1) < (q.1 - p.1) * (y - p.2)) = true then 1 else 0 := by
  unfold sgT crs
  simp only [decide_eq_true_eq]
  by_cases h1 : (q.1 - p.1) * (y - p.2) < (q.2 - p.2) * (x - p.1)
  · rw [if_pos (by omega), if_pos h1]
  · rw [if_neg (by omega), if_neg h1]
    by_cases h2 : (q.2 - p.2) * (x - p.1) < (q.1 - p.1) * (y - p.2)
    · rw [if_pos (by omega), if_pos h2]
    · rw [if_neg (by omega), if_neg h2]

theorem sgT_pos {n : Int} (h : 0 < n) : sgT n = 1 := by unfold sgT; rw [if_neg (by omega), if_pos h]

theorem sgT_ways (n : Int) : (sgT n = -1 ∧ n < 0) ∨ (sgT n = 0 ∧ n = 0) ∨ (sgT n = 1 ∧ 0 < n) := by
  unfold sgT
  by_cases h1 : n < 0
  · rw [if_pos h1]; omega
  · rw [if_neg h1]
    by_cases h2 : 0 < n
    · rw [if_pos h2]; omega
    · rw [if_neg h2]; omega

/-- Twelve numbers in a row. -/
def Row12 (g n : Nat) (G : Nat → Int) (w : World) : Prop := ∀ o < n, w.cell? ⟨g, o, none⟩ = some (.int .i64 (G o))

theorem Row12.keep {g n : Nat} {G : Nat → Int} {w w' : World} (h : Row12 g n G w) (hb : Below w.heap.size w w') : Row12 g n G w' := fun o ho => keepCell hb (h o ho)

def ptG (G : Nat → Int) (j : Nat) : Int × Int := (G (j * 2), G (j * 2 + 1))

/-- The box's corners, in thirds. -/
def boxC (l1 l2 u1 u2 : Int) : Nat → Int
  | 0 => 3 * l1 | 1 => 3 * l2 | 2 => 3 * u1 | 3 => 3 * l2 | 4 => 3 * u1 | 5 => 3 * u2 | 6 => 3 * l1 | _ => 3 * u2

theorem boxC_box {l1 l2 u1 u2 B : Int} (h1 : -B ≤ 3 * l1 ∧ 3 * l1 ≤ B) (h2 : -B ≤ 3 * l2 ∧ 3 * l2 ≤ B) (h3 : -B ≤ 3 * u1 ∧ 3 * u1 ≤ B) (h4 : -B ≤ 3 * u2 ∧ 3 * u2 ≤ B) (o : Nat) : -B ≤ boxC l1 l2 u1 u2 o ∧ boxC l1 l2 u1 u2 o ≤ B := by
  unfold boxC
  split <;> assumption

theorem row_boxC (w : World) (e : TypeId) (l1 l2 u1 u2 : Int) : Row12 w.heap.size 8 (boxC l1 l2 u1 u2) (w.alloc (.cells #[.int .i64 (3 * l1), .int .i64 (3 * l2), .int .i64 (3 * u1), .int .i64 (3 * l2), .int .i64 (3 * u1), .int .i64 (3 * u2), .int .i64 (3 * l1), .int .i64 (3 * u2)] e)) := fun o ho => by
  obtain rfl | rfl | rfl | rfl | rfl | rfl | rfl | rfl : o = 0 ∨ o = 1 ∨ o = 2 ∨ o = 3 ∨ o = 4 ∨ o = 5 ∨ o = 6 ∨ o = 7 := by omega
  all_goals
    unfold boxC
    go_simp

theorem corner_ix {k j : Nat} (h : k < 6) (c : Nat) (hj : (k + c) % 6 = j) : j < 6 ∧ ((k : Int) + c) % 6 = (j : Int) ∧ ((k : Int) + c).tmod 6 = (j : Int) := by
  have e : (((k + c) % 6 : Nat) : Int) = ((k : Int) + (c : Int)) % 6 := by push_cast; rfl
  refine ⟨by omega, by rw [← e, hj], ?_⟩
  rw [Int.tmod_eq_emod_of_nonneg (by omega), ← e, hj]

/-- What a call finds of what it was handed. -/
def TouS (n : Nat) (r a b : Int) (L U : Nat → Int) (w : World) : Prop :=
  (w.cell? ⟨n, 0, none⟩ = some (.int .i64 r) ∧ w.cell? ⟨n, 1, none⟩ = some (.int .i64 a) ∧ w.cell? ⟨n, 2, none⟩ = some (.int .i64 b)) ∧ Row12 (n + 1) 2 L w ∧ Row12 (n + 1 + 1) 2 U w

theorem TouS.keep {n : Nat} {r a b : Int} {L U : Nat → Int} {w w' : World} (h : TouS n r a b L U w) (hb : Below w.heap.size w w') : TouS n r a b L U w' :=
  ⟨⟨keepCell hb h.1.1, keepCell hb h.1.2.1, keepCell hb h.1.2.2⟩, h.2.1.keep hb, h.2.2.keep hb⟩

def prT (x y : Int) : Nat → Int
  | 0 => x
  | _ => y

theorem tou_made (w : World) (e1 e2 e3 : TypeId) (r a b l1 l2 u1 u2 : Int) : TouS w.heap.size r a b (prT l1 l2) (prT u1 u2) (((w.alloc (.cells #[.int .i64 r, .int .i64 a, .int .i64 b] e1)).alloc (.cells #[.int .i64 l1, .int .i64 l2] e2)).alloc (.cells #[.int .i64 u1, .int .i64 u2] e3)) := by
  refine ⟨⟨by go_simp, by go_simp, by go_simp⟩, fun o ho => ?_, fun o ho => ?_⟩
  · obtain rfl | rfl : o = 0 ∨ o = 1 := by omega
    · unfold prT; go_simp
    · unfold prT; go_simp
  · obtain rfl | rfl : o = 0 ∨ o = 1 := by omega
    · unfold prT; go_simp
    · unfold prT; go_simp

/-- Along one axis the ring and the box are not parted. -/
def AxT (G L U : Nat → Int) (a : Nat) : Prop := (∃ i, i < 6 ∧ 3 * L a ≤ G (i * 2 + a)) ∧ ∃ i, i < 6 ∧ G (i * 2 + a) ≤ 3 * U a

theorem unparted_ax {G : Nat → Int} {l1 l2 u1 u2 : Int} : Unparted (ptG G) (3 * l1) (3 * l2) (3 * u1) (3 * u2) ↔ (∀ a, a < 2 → AxT G (prT l1 l2) (prT u1 u2) a) ∧
    ∀ i, i < 6 → ¬ ∀ c, c < 4 → crs (ptG G i) (ptG G ((i + 1) % 6)) (boxC l1 l2 u1 u2 (c * 2)) (boxC l1 l2 u1 u2 (c * 2 + 1)) < 0 := by
  have hc : ∀ i, (0 ≤ crs (ptG G i) (ptG G (nx i)) (3 * l1) (3 * l2) ∨ 0 ≤ crs (ptG G i) (ptG G (nx i)) (3 * u1) (3 * l2) ∨ 0 ≤ crs (ptG G i) (ptG G (nx i)) (3 * u1) (3 * u2) ∨ 0 ≤ crs (ptG G i) (ptG G (nx i)) (3 * l1) (3 * u2)) ↔
      ¬ ∀ c, c < 4 → crs (ptG G i) (ptG G ((i + 1) % 6)) (boxC l1 l2 u1 u2 (c * 2)) (boxC l1 l2 u1 u2 (c * 2 + 1)) < 0 := fun i => by
    constructor
    · intro h k
      have k0 := k 0 (by omega)
      have k1 := k 1 (by omega)
      have k2 := k 2 (by omega)
      have k3 := k 3 (by omega)
      simp only [boxC, nx] at *
      omega
    · intro h
      by_cases c : (0 ≤ crs (ptG G i) (ptG G (nx i)) (3 * l1) (3 * l2) ∨ 0 ≤ crs (ptG G i) (ptG G (nx i)) (3 * u1) (3 * l2) ∨ 0 ≤ crs (ptG G i) (ptG G (nx i)) (3 * u1) (3 * u2) ∨ 0 ≤ crs (ptG G i) (ptG G (nx i)) (3 * l1) (3 * u2))
      · exact c
      · refine absurd (fun c hc => ?_) h
        obtain rfl | rfl | rfl | rfl : c = 0 ∨ c = 1 ∨ c = 2 ∨ c = 3 := by omega
        all_goals
          simp only [boxC, nx] at *
          omega
  constructor
  · rintro ⟨⟨h1, h2⟩, ⟨h3, h4⟩, h5⟩
    refine ⟨fun a ha => ?_, fun i hi => (hc i).1 (h5 i hi)⟩
    obtain rfl | rfl : a = 0 ∨ a = 1 := by omega
    · exact ⟨h1, h2⟩
    · exact ⟨h3, h4⟩
  · rintro ⟨h1, h2⟩
    exact ⟨h1 0 (by omega), h1 1 (by omega), fun i hi => (hc i).2 (h2 i hi)⟩

theorem keepFourB {w0 a b : World} {p0 p1 p2 p3 : Addr} {v0 v1 v2 v3 : Value} (hb : Below a.heap.size a b) (h : a.cell? p0 = some v0 ∧ a.cell? p1 = some v1 ∧ a.cell? p2 = some v2 ∧ a.cell? p3 = some v3 ∧ Below w0.heap.size w0 a) :
    b.cell? p0 = some v0 ∧ b.cell? p1 = some v1 ∧ b.cell? p2 = some v2 ∧ b.cell? p3 = some v3 ∧ Below w0.heap.size w0 b :=
  ⟨keepCell hb h.1, keepCell hb h.2.1, keepCell hb h.2.2.1, keepCell hb h.2.2.2.1, belowT h.2.2.2.2 hb⟩

theorem keepSixB {w0 a b : World} {p0 p1 p2 p3 p4 p5 : Addr} {v0 v1 v2 v3 v4 v5 : Value} (hb : Below a.heap.size a b) (h : a.cell? p0 = some v0 ∧ a.cell? p1 = some v1 ∧ a.cell? p2 = some v2 ∧ a.cell? p3 = some v3 ∧ a.cell? p4 = some v4 ∧ a.cell? p5 = some v5 ∧ Below w0.heap.size w0 a) :
    b.cell? p0 = some v0 ∧ b.cell? p1 = some v1 ∧ b.cell? p2 = some v2 ∧ b.cell? p3 = some v3 ∧ b.cell? p4 = some v4 ∧ b.cell? p5 = some v5 ∧ Below w0.heap.size w0 b :=
  ⟨keepCell hb h.1, keepCell hb h.2.1, keepCell hb h.2.2.1, keepCell hb h.2.2.2.1, keepCell hb h.2.2.2.2.1, keepCell hb h.2.2.2.2.2.1, belowT h.2.2.2.2.2.2 hb⟩

/-- A corner over against a side. -/
theorem hv_opp {K : Nat} (hK : K ≤ 12) (a b : Int) : ∀ i, i < 6 → 0 < crs (hv K a b i) (hv K a b ((i + 1) % 6)) (hv K a b ((i + 3) % 6)).1 (hv K a b ((i + 3) % 6)).2 := fun i hi => by
  have hd := (dvK_box hK).1
  rw [← lin_one]
  have h := fun p q => re_corner K a b p q
  have f := fun p q => lin_side K a b (coX K a b p q) (coY K a b p q) 1
  obtain rfl | rfl | rfl | rfl | rfl | rfl : i = 0 ∨ i = 1 ∨ i = 2 ∨ i = 3 ∨ i = 4 ∨ i = 5 := by omega
  · have k := (f (-1) (-1)).1
    rw [(h (-1) (-1)).1, (h (-1) (-1)).2] at k
    show 0 < lin (hv K a b 0) (hv K a b 1) _ _ 1
    exact k.symm ▸ (by omega)
  · have k := (f 1 (-2)).2.1
    rw [(h 1 (-2)).1, (h 1 (-2)).2] at k
    show 0 < lin (hv K a b 1) (hv K a b 2) _ _ 1
    exact k.symm ▸ (by omega)
  · have k := (f 2 (-1)).2.2.1
    rw [(h 2 (-1)).1, (h 2 (-1)).2] at k
    show 0 < lin (hv K a b 2) (hv K a b 3) _ _ 1
    exact k.symm ▸ (by omega)
  · have k := (f 1 1).2.2.2.1
    rw [(h 1 1).1, (h 1 1).2] at k
    show 0 < lin (hv K a b 3) (hv K a b 4) _ _ 1
    exact k.symm ▸ (by omega)
  · have k := (f (-1) 2).2.2.2.2.1
    rw [(h (-1) 2).1, (h (-1) 2).2] at k
    show 0 < lin (hv K a b 4) (hv K a b 5) _ _ 1
    exact k.symm ▸ (by omega)
  · have k := (f (-2) 1).2.2.2.2.2
    rw [(h (-2) 1).1, (h (-2) 1).2] at k
    show 0 < lin (hv K a b 5) (hv K a b 0) _ _ 1
    exact k.symm ▸ (by omega)

theorem hexG_hv (K : Nat) (a b : Int) : ptG (hexG K a b) = hv K a b := by
  funext j
  unfold ptG hv
  rw [show j * 2 = 2 * j by omega, hexG_even, hexG_odd]

theorem hexG_box {K : Nat} {a b : Int} (hK : K ≤ 12) (ha : -400000000 ≤ a ∧ a ≤ 400000000) (hb : -400000000 ≤ b ∧ b ≤ 400000000) (o : Nat) (ho : o < 12) : -1152921504606846976 ≤ hexG K a b o ∧ hexG K a b o ≤ 1152921504606846976 := by
  have hw := way_box (o / 2) (by omega)
  have hc := ct_box (a := 3 * a + wayA (o / 2)) (b := 3 * b + wayB (o / 2)) hK (by omega) (by omega)
  unfold hexG
  split
  · unfold coX poX; omega
  · unfold coY poY; omega

/-- That a cell and a box have a point in common, as it is told. -/
def TouP (r a b l1 l2 u1 u2 : Int) : Prop := Ok4 r a b ∧ (¬ FarT l1 l2) ∧ (¬ FarT u1 u2) ∧ (l1 ≤ u1 ∧ l2 ≤ u2) ∧ Tou (12 - r).toNat l1 l2 u1 u2 a b

end Go.Proofs.YtdklpgphmoaniabGreatDoor
