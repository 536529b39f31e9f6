/-
  Plain facts on rings of corners: what lies beside a ring; boxes of four corners; triangles. No condition beyond those written.
-/
import Derived.Test.YtmfpkphhjfgjbabPolyMath
import Derived.Test.YtmfpkphhjfgjbabProg
import Derived.Handy
import Derived.Deep.QuietTactic
import Derived.WalkSpells
import Derived.WalkLawsBesides
import Derived.BigQuiet
import Derived.PlainAid
import Derived.Deep.RegionWith
import Derived.Laws.BitsAllLaws
namespace Go.Proofs.Ytmfpkphhjfgjbab

theorem sgn_right {A B D E : Int} (hA : 0 ≤ A) (hAB : A < B) (hE : 0 < E) (hDE : D < E) : D * A - B * E < 0 := by
  have h1 : D * A ≤ E * A := Int.mul_le_mul_of_nonneg_right (by omega) hA
  have h2 : E * A < E * B := Int.mul_lt_mul_of_pos_left hAB hE
  rw [Int.mul_comm B E]
  omega

theorem sgn_left {A B D E : Int} (hA : 0 ≤ A) (hAB : A < B) (hE : E < 0) (hDE : E < D) : 0 < D * A - B * E := by
  have h := sgn_right (A := A) (B := B) (D := -D) (E := -E) hA hAB (by omega) (by omega)
  rw [Int.neg_mul, Int.mul_neg] at h
  omega

theorem crs_right {p q : Int × Int} {x y : Int} (hp : p.1 < x) (hq : q.1 < x) (h1 : p.2 ≤ y) (h2 : y < q.2) : crs p q x y < 0 := by
  unfold crs
  exact sgn_right (by omega) (by omega) (by omega) (by omega)

theorem crs_left {p q : Int × Int} {x y : Int} (hp : x < p.1) (hq : x < q.1) (h1 : p.2 ≤ y) (h2 : y < q.2) : 0 < crs p q x y := by
  unfold crs
  exact sgn_left (by omega) (by omega) (by omega) (by omega)

theorem crB_right {p q : Int × Int} {x y : Int} (hp : p.1 < x) (hq : q.1 < x) : crB p q x y = false := by
  refine Bool.eq_false_iff.2 fun h => ?_
  rcases crB_iff.1 h with ⟨h1, h2, h3⟩ | ⟨h1, h2, h3⟩
  · have := crs_right hp hq h1 h2; omega
  · have := crs_right hq hp h2 h1
    rw [crs_swap p q] at this
    omega

theorem crB_left {p q : Int × Int} {x y : Int} (hp : x < p.1) (hq : x < q.1) : bi (crB p q x y) = bi (decide (p.2 ≤ y)) + bi (decide (q.2 ≤ y)) + -(2 * (bi (decide (p.2 ≤ y)) * bi (decide (q.2 ≤ y)))) := by
  by_cases h1 : p.2 ≤ y <;> by_cases h2 : q.2 ≤ y
  · have e : crB p q x y = false := Bool.eq_false_iff.2 fun h => by rcases crB_iff.1 h with h | h <;> omega
    rw [e]; simp [h1, h2, bi]
  · have e : crB p q x y = true := crB_iff.2 (.inl ⟨h1, by omega, crs_left hp hq h1 (by omega)⟩)
    rw [e]; simp [h1, h2, bi]
  · have e : crB p q x y = true := crB_iff.2 (.inr ⟨by omega, h2, by
      have := crs_left hq hp h2 (by omega)
      rw [crs_swap p q] at this
      omega⟩)
    rw [e]; simp [h1, h2, bi]
  · have e : crB p q x y = false := Bool.eq_false_iff.2 fun h => by rcases crB_iff.1 h with h | h <;> omega
    rw [e]; simp [h1, h2, bi]

/-- A point left of all corners: as many edges cross its row up as down. -/
theorem crN_left {L : List (Int × Int)} {x y : Int} (h : ∀ p ∈ L, x < p.1) : crN L x y % 2 = 0 := by
  unfold crN
  rw [cyc_congr (g := fun p q => bi (decide (p.2 ≤ y)) + bi (decide (q.2 ≤ y)) + -(2 * (bi (decide (p.2 ≤ y)) * bi (decide (q.2 ≤ y))))) fun p hp q hq => crB_left (h p hp) (h q hq),
    cyc_add (fun p q => bi (decide (p.2 ≤ y)) + bi (decide (q.2 ≤ y))), cyc_add (fun p q => bi (decide (p.2 ≤ y))), cyc_ends (fun q => bi (decide (q.2 ≤ y))), cyc_neg, cyc_mul]
  omega

theorem crN_right {L : List (Int × Int)} {x y : Int} (h : ∀ p ∈ L, p.1 < x) : crN L x y = 0 := by
  unfold crN
  rw [cyc_congr (g := fun _ _ => 0) fun p hp q hq => by rw [crB_right (h p hp) (h q hq)]; rfl, cyc_zero]

theorem crN_over {L : List (Int × Int)} {x y : Int} (h : ∀ p ∈ L, p.2 ≤ y) : crN L x y = 0 := by
  unfold crN
  rw [cyc_congr (g := fun _ _ => 0) fun p hp q hq => by
    have e : crB p q x y = false := Bool.eq_false_iff.2 fun k => by
      have h1 := h p hp
      have h2 := h q hq
      rcases crB_iff.1 k with k | k <;> omega
    rw [e]; rfl, cyc_zero]

theorem crN_under {L : List (Int × Int)} {x y : Int} (h : ∀ p ∈ L, y < p.2) : crN L x y = 0 := by
  unfold crN
  rw [cyc_congr (g := fun _ _ => 0) fun p hp q hq => by
    have e : crB p q x y = false := Bool.eq_false_iff.2 fun k => by
      have h1 := h p hp
      have h2 := h q hq
      rcases crB_iff.1 k with k | k <;> omega
    rw [e]; rfl, cyc_zero]

/-- A point on an edge is not beside all corners. -/
theorem onN_beside {L : List (Int × Int)} {x y : Int} (h : (∀ p ∈ L, x < p.1) ∨ (∀ p ∈ L, p.1 < x) ∨ (∀ p ∈ L, p.2 < y) ∨ (∀ p ∈ L, y < p.2)) : onN L x y = 0 := by
  unfold onN
  rw [cyc_congr (g := fun _ _ => 0) fun p hp q hq => by
    have e : onB p q x y = false := Bool.eq_false_iff.2 fun k => by
      have k := onB_iff.1 k
      rcases h with h | h | h | h
      all_goals
        have h1 := h p hp
        have h2 := h q hq
        omega
    rw [e]; rfl, cyc_zero]

theorem cyc3 (f : Int × Int → Int × Int → Int) (p q s : Int × Int) : cyc f [p, q, s] = f p q + f q s + f s p := by
  simp [cyc, sumN, pt]

theorem cyc4 (f : Int × Int → Int × Int → Int) (p q s t : Int × Int) : cyc f [p, q, s, t] = f p q + f q s + f s t + f t p := by
  simp [cyc, sumN, pt]

/-! A box of four corners. -/

theorem onB_hor {a c b x y : Int} : onB (a, b) (c, b) x y = true ↔ y = b ∧ min a c ≤ x ∧ x ≤ max a c := by
  rw [onB_iff]
  unfold crs
  simp only
  constructor
  · intro h; omega
  · rintro ⟨rfl, h1, h2⟩
    refine ⟨by rw [Int.sub_self, Int.mul_zero, Int.zero_mul]; rfl, h1, h2, by omega, by omega⟩

theorem onB_ver {a b d x y : Int} : onB (a, b) (a, d) x y = true ↔ x = a ∧ min b d ≤ y ∧ y ≤ max b d := by
  rw [onB_iff]
  unfold crs
  simp only
  constructor
  · intro h; omega
  · rintro ⟨rfl, h1, h2⟩
    refine ⟨by rw [Int.sub_self, Int.mul_zero, Int.zero_mul]; rfl, by omega, by omega, h1, h2⟩

theorem crB_hor {a c b x y : Int} : crB (a, b) (c, b) x y = false := Bool.eq_false_iff.2 fun h => by
  rcases crB_iff.1 h with h | h <;> simp only at h <;> omega

theorem crB_ver {a b d x y : Int} : crB (a, b) (a, d) x y = true ↔ ((b ≤ y ∧ y < d) ∨ (y < b ∧ d ≤ y)) ∧ x < a := by
  rw [crB_iff]
  unfold crs
  simp only [Int.sub_self, Int.zero_mul, Int.zero_sub]
  constructor
  · rintro (⟨h1, h2, h3⟩ | ⟨h1, h2, h3⟩)
    · refine ⟨.inl ⟨h1, h2⟩, ?_⟩
      by_cases c : x < a
      · exact c
      · have := Int.mul_nonneg (show 0 ≤ d - b by omega) (show 0 ≤ x - a by omega)
        omega
    · refine ⟨.inr ⟨h1, h2⟩, ?_⟩
      by_cases c : x < a
      · exact c
      · have := Int.mul_nonneg (show 0 ≤ b - d by omega) (show 0 ≤ x - a by omega)
        rw [show b - d = -(d - b) by omega, Int.neg_mul] at this
        omega
  · rintro ⟨h1 | h1, h2⟩
    · refine .inl ⟨h1.1, h1.2, ?_⟩
      have := Int.mul_pos (show 0 < d - b by omega) (show 0 < a - x by omega)
      rw [show a - x = -(x - a) by omega, Int.mul_neg] at this
      exact this
    · refine .inr ⟨h1.1, h1.2, ?_⟩
      have := Int.mul_pos (show 0 < b - d by omega) (show 0 < a - x by omega)
      rw [show a - x = -(x - a) by omega, show b - d = -(d - b) by omega, Int.mul_neg, Int.neg_mul] at this
      omega

/-- The ring of a box. -/
def box4 (a b c d : Int) : List (Int × Int) := [(a, b), (c, b), (c, d), (a, d)]

theorem bi_cases (b : Bool) (P : Prop) (h : b = true ↔ P) : (bi b = 1 ∧ P) ∨ (bi b = 0 ∧ ¬ P) := by
  cases b with
  | true => exact .inl ⟨rfl, h.1 rfl⟩
  | false => exact .inr ⟨rfl, fun k => by have := h.2 k; cases this⟩

theorem box_on {a b c d x y : Int} : 0 < onN (box4 a b c d) x y ↔ (min a c ≤ x ∧ x ≤ max a c ∧ min b d ≤ y ∧ y ≤ max b d) ∧ (y = b ∨ y = d ∨ x = a ∨ x = c) := by
  unfold onN box4
  rw [cyc4]
  have h1 := bi_cases _ _ (onB_hor (a := a) (c := c) (b := b) (x := x) (y := y))
  have h2 := bi_cases _ _ (onB_ver (a := c) (b := b) (d := d) (x := x) (y := y))
  have h3 := bi_cases _ _ (onB_hor (a := c) (c := a) (b := d) (x := x) (y := y))
  have h4 := bi_cases _ _ (onB_ver (a := a) (b := d) (d := b) (x := x) (y := y))
  generalize bi (onB (a, b) (c, b) x y) = u1 at *
  generalize bi (onB (c, b) (c, d) x y) = u2 at *
  generalize bi (onB (c, d) (a, d) x y) = u3 at *
  generalize bi (onB (a, d) (a, b) x y) = u4 at *
  omega

theorem box_cr {a b c d x y : Int} : crN (box4 a b c d) x y % 2 = 1 ↔ (min a c ≤ x ∧ x < max a c) ∧ (min b d ≤ y ∧ y < max b d) := by
  unfold crN box4
  rw [cyc4, crB_hor, crB_hor]
  have h2 := bi_cases _ _ (crB_ver (a := c) (b := b) (d := d) (x := x) (y := y))
  have h4 := bi_cases _ _ (crB_ver (a := a) (b := d) (d := b) (x := x) (y := y))
  have e0 : bi false = 0 := rfl
  rw [e0]
  generalize bi (crB (c, b) (c, d) x y) = u2 at *
  generalize bi (crB (a, d) (a, b) x y) = u4 at *
  omega

/-- What lies in a box, borders too. -/
theorem box_in {a b c d x y : Int} (_ : a ≠ c) (_ : b ≠ d) : (0 < onN (box4 a b c d) x y ∨ crN (box4 a b c d) x y % 2 = 1) ↔ min a c ≤ x ∧ x ≤ max a c ∧ min b d ≤ y ∧ y ≤ max b d := by
  rw [box_on, box_cr]
  omega

theorem box_flat {a b c d x y : Int} (_ : a = c ∨ b = d) : (0 < onN (box4 a b c d) x y ∨ crN (box4 a b c d) x y % 2 = 1) ↔ (min a c ≤ x ∧ x ≤ max a c ∧ min b d ≤ y ∧ y ≤ max b d) ∧ 0 < onN (box4 a b c d) x y := by
  rw [box_on, box_cr]
  omega

/-! A triangle. -/

theorem tri_sum (p q s : Int × Int) (x y : Int) : crs p q x y + crs q s x y + crs s p x y = area [p, q, s] := by
  unfold area
  rw [cyc3]
  unfold crs ar2
  grind

theorem tri_x (p q s : Int × Int) (x y : Int) : crs q s x y * (p.1 - x) + crs s p x y * (q.1 - x) + crs p q x y * (s.1 - x) = 0 := by unfold crs; grind

theorem tri_y (p q s : Int × Int) (x y : Int) : crs q s x y * (p.2 - y) + crs s p x y * (q.2 - y) + crs p q x y * (s.2 - y) = 0 := by unfold crs; grind

/-- Weights that are not below nought: the point is between. -/
theorem between {u v P Q x : Int} (hu : 0 ≤ u) (hv : 0 ≤ v) (hs : 0 < u + v) (h : u * (P - x) + v * (Q - x) = 0) : min P Q ≤ x ∧ x ≤ max P Q := by
  constructor
  · by_cases c : min P Q ≤ x
    · exact c
    · have h1 := Int.mul_le_mul_of_nonneg_left (show 1 ≤ P - x by omega) hu
      have h2 := Int.mul_le_mul_of_nonneg_left (show 1 ≤ Q - x by omega) hv
      omega
  · by_cases c : x ≤ max P Q
    · exact c
    · have h1 := Int.mul_le_mul_of_nonneg_left (show 1 ≤ x - P by omega) hu
      have h2 := Int.mul_le_mul_of_nonneg_left (show 1 ≤ x - Q by omega) hv
      have e1 : u * (x - P) = -(u * (P - x)) := by rw [← Int.mul_neg]; congr 1; omega
      have e2 : v * (x - Q) = -(v * (Q - x)) := by rw [← Int.mul_neg]; congr 1; omega
      omega

/-- On the way from p to q, if the other two sides are not below nought. -/
theorem tri_edge {p q s : Int × Int} {x y : Int} (h0 : crs p q x y = 0) (h2 : 0 ≤ crs q s x y) (h3 : 0 ≤ crs s p x y) (ha : 0 < area [p, q, s]) : onB p q x y = true := by
  have e := tri_sum p q s x y
  have ex := tri_x p q s x y
  have ey := tri_y p q s x y
  rw [h0, Int.zero_mul] at ex ey
  have bx := between h2 h3 (by omega) (show crs q s x y * (p.1 - x) + crs s p x y * (q.1 - x) = 0 by omega)
  have byy := between h2 h3 (by omega) (show crs q s x y * (p.2 - y) + crs s p x y * (q.2 - y) = 0 by omega)
  exact onB_iff.2 ⟨h0, bx.1, bx.2, byy.1, byy.2⟩

theorem opp {u v P Q x : Int} (hu : 0 < u) (hv : v < 0) (h : u * (P - x) + v * (Q - x) = 0) (h1 : min P Q ≤ x) (h2 : x ≤ max P Q) : P = Q := by
  rcases (show P ≤ x ∧ x ≤ Q ∨ Q ≤ x ∧ x ≤ P by omega) with ⟨c1, c2⟩ | ⟨c1, c2⟩
  · have k1 := Int.mul_le_mul_of_nonneg_left (show 0 ≤ x - P by omega) (show 0 ≤ u by omega)
    have e1 : u * (x - P) = -(u * (P - x)) := by rw [← Int.mul_neg]; congr 1; omega
    have e2 : (-v) * (Q - x) = -(v * (Q - x)) := Int.neg_mul ..
    have k2 := Int.mul_le_mul_of_nonneg_left (show 0 ≤ Q - x by omega) (show 0 ≤ -v by omega)
    by_cases d1 : P < x
    · have := Int.mul_pos hu (show 0 < x - P by omega)
      omega
    · by_cases d2 : x < Q
      · have := Int.mul_pos (show 0 < -v by omega) (show 0 < Q - x by omega)
        omega
      · omega
  · have k1 := Int.mul_nonneg (show 0 ≤ u by omega) (show 0 ≤ P - x by omega)
    have e2 : (-v) * (x - Q) = v * (Q - x) := by rw [Int.neg_mul, ← Int.mul_neg]; congr 1; omega
    have k2 := Int.mul_nonneg (show 0 ≤ -v by omega) (show 0 ≤ x - Q by omega)
    by_cases d1 : x < P
    · have := Int.mul_pos hu (show 0 < P - x by omega)
      omega
    · by_cases d2 : Q < x
      · have := Int.mul_pos (show 0 < -v by omega) (show 0 < x - Q by omega)
        omega
      · omega

/-- Of a point on an edge no side is below nought. -/
theorem tri_on {p q s : Int × Int} {x y : Int} (h : onB p q x y = true) (ha : 0 < area [p, q, s]) : 0 ≤ crs q s x y ∧ 0 ≤ crs s p x y := by
  obtain ⟨h0, hx1, hx2, hy1, hy2⟩ := onB_iff.1 h
  have e := tri_sum p q s x y
  have ex := tri_x p q s x y
  have ey := tri_y p q s x y
  rw [h0, Int.zero_mul] at ex ey
  have no : p = q → False := fun e => by
    subst e
    have : area [p, p, s] = 0 := by
      unfold area
      rw [cyc3]
      unfold ar2
      grind
    omega
  constructor
  · by_cases c : 0 ≤ crs q s x y
    · exact c
    · exfalso
      have k1 := opp (u := crs s p x y) (v := crs q s x y) (P := q.1) (Q := p.1) (x := x) (by omega) (by omega) (by omega) (by omega) (by omega)
      have k2 := opp (u := crs s p x y) (v := crs q s x y) (P := q.2) (Q := p.2) (x := y) (by omega) (by omega) (by omega) (by omega) (by omega)
      exact no (Prod.ext k1.symm k2.symm)
  · by_cases c : 0 ≤ crs s p x y
    · exact c
    · exfalso
      have k1 := opp (u := crs q s x y) (v := crs s p x y) (P := p.1) (Q := q.1) (x := x) (by omega) (by omega) (by omega) (by omega) (by omega)
      have k2 := opp (u := crs q s x y) (v := crs s p x y) (P := p.2) (Q := q.2) (x := y) (by omega) (by omega) (by omega) (by omega) (by omega)
      exact no (Prod.ext k1 k2)

/-- The third side's sign, where the point's row parts one corner from the other two. -/
theorem third {u v w P Q S : Int} (h : u * P + v * Q + w * S = 0) (hv : 0 < v) (hw : 0 < w) (hm : (0 < P ∧ Q ≤ 0 ∧ S ≤ 0) ∨ (P ≤ 0 ∧ 0 < Q ∧ 0 < S)) : 0 ≤ u := by
  by_cases c : 0 ≤ u
  · exact c
  · exfalso
    rcases hm with ⟨h1, h2, h3⟩ | ⟨h1, h2, h3⟩
    · have k1 := Int.mul_pos (show 0 < -u by omega) h1
      have k2 := Int.mul_nonneg (show 0 ≤ v by omega) (show 0 ≤ -Q by omega)
      have k3 := Int.mul_nonneg (show 0 ≤ w by omega) (show 0 ≤ -S by omega)
      rw [Int.neg_mul] at k1
      rw [Int.mul_neg] at k2 k3
      omega
    · have k1 := Int.mul_nonneg (show 0 ≤ -u by omega) (show 0 ≤ -P by omega)
      have k2 := Int.mul_pos hv h2
      have k3 := Int.mul_pos hw h3
      rw [Int.neg_mul, Int.mul_neg] at k1
      omega

theorem third_neg {u v w P Q S : Int} (h : u * P + v * Q + w * S = 0) (hv : v < 0) (hw : w < 0) (hm : (0 < P ∧ Q ≤ 0 ∧ S ≤ 0) ∨ (P ≤ 0 ∧ 0 < Q ∧ 0 < S)) : u ≤ 0 := by
  have := third (u := -u) (v := -v) (w := -w) (P := P) (Q := Q) (S := S) (by rw [Int.neg_mul, Int.neg_mul, Int.neg_mul]; omega) (by omega) (by omega) hm
  omega

/-- An edge that the point's row parts, on whose line the point lies: it is on it. -/
theorem part_on {p q : Int × Int} {x y : Int} (h : crs p q x y = 0) (hm : (p.2 ≤ y ∧ y < q.2) ∨ (y < p.2 ∧ q.2 ≤ y)) : onB p q x y = true := by
  have hx : min p.1 q.1 ≤ x ∧ x ≤ max p.1 q.1 := by
    unfold crs at h
    rcases hm with hm | hm
    · exact between (u := q.2 - y) (v := y - p.2) (by omega) (by omega) (by omega) (by grind)
    · exact between (u := y - q.2) (v := p.2 - y) (by omega) (by omega) (by omega) (by grind)
  exact onB_iff.2 ⟨h, hx.1, hx.2, by omega, by omega⟩

theorem onN3 {p q s : Int × Int} {x y : Int} : 0 < onN [p, q, s] x y ↔ onB p q x y = true ∨ onB q s x y = true ∨ onB s p x y = true := by
  unfold onN
  rw [cyc3, ← bi_pos (onB p q x y), ← bi_pos (onB q s x y), ← bi_pos (onB s p x y)]
  have h1 := bi_box (onB p q x y)
  have h2 := bi_box (onB q s x y)
  have h3 := bi_box (onB s p x y)
  omega

theorem area_rot (p q s : Int × Int) : area [q, s, p] = area [p, q, s] := by
  unfold area
  rw [cyc3, cyc3]
  omega

/-- What the parity of the crossings says, of a point on no edge. -/
theorem tri_odd {p q s : Int × Int} {x y : Int} (hn : ¬ 0 < onN [p, q, s] x y) (ho : crN [p, q, s] x y % 2 = 1) : (0 ≤ crs p q x y ∧ 0 ≤ crs q s x y ∧ 0 ≤ crs s p x y ∧ 0 < area [p, q, s]) ∨ (crs p q x y ≤ 0 ∧ crs q s x y ≤ 0 ∧ crs s p x y ≤ 0 ∧ area [p, q, s] < 0) := by
  rw [onN3] at hn
  have n1 : ∀ h : crs p q x y = 0, ¬ ((p.2 ≤ y ∧ y < q.2) ∨ (y < p.2 ∧ q.2 ≤ y)) := fun h k => hn (.inl (part_on h k))
  have n2 : ∀ h : crs q s x y = 0, ¬ ((q.2 ≤ y ∧ y < s.2) ∨ (y < q.2 ∧ s.2 ≤ y)) := fun h k => hn (.inr (.inl (part_on h k)))
  have n3 : ∀ h : crs s p x y = 0, ¬ ((s.2 ≤ y ∧ y < p.2) ∨ (y < s.2 ∧ p.2 ≤ y)) := fun h k => hn (.inr (.inr (part_on h k)))
  have e := tri_sum p q s x y
  have ey := tri_y p q s x y
  unfold crN at ho
  rw [cyc3] at ho
  have h1 := bi_cases _ _ (crB_iff (p := p) (q := q) (x := x) (y := y))
  have h2 := bi_cases _ _ (crB_iff (p := q) (q := s) (x := x) (y := y))
  have h3 := bi_cases _ _ (crB_iff (p := s) (q := p) (x := x) (y := y))
  generalize bi (crB p q x y) = b1 at *
  generalize bi (crB q s x y) = b2 at *
  generalize bi (crB s p x y) = b3 at *
  generalize crs p q x y = c1 at *
  generalize crs q s x y = c2 at *
  generalize crs s p x y = c3 at *
  clear hn
  have eP : c2 * (p.2 - y) + c3 * (q.2 - y) + c1 * (s.2 - y) = 0 := ey
  have eQ : c3 * (q.2 - y) + c1 * (s.2 - y) + c2 * (p.2 - y) = 0 := by omega
  have eS : c1 * (s.2 - y) + c2 * (p.2 - y) + c3 * (q.2 - y) = 0 := by omega
  by_cases mp : y < p.2 <;> by_cases mq : y < q.2 <;> by_cases ms : y < s.2
  · omega
  · -- s alone, below
    rcases (show (0 < c2 ∧ 0 < c3) ∨ (c2 < 0 ∧ c3 < 0) by omega) with ⟨k2, k3⟩ | ⟨k2, k3⟩
    · have := third eS k2 k3 (.inr ⟨by omega, by omega, by omega⟩); omega
    · have := third_neg eS k2 k3 (.inr ⟨by omega, by omega, by omega⟩); omega
  · rcases (show (0 < c1 ∧ 0 < c2) ∨ (c1 < 0 ∧ c2 < 0) by omega) with ⟨k2, k3⟩ | ⟨k2, k3⟩
    · have := third eQ k2 k3 (.inr ⟨by omega, by omega, by omega⟩); omega
    · have := third_neg eQ k2 k3 (.inr ⟨by omega, by omega, by omega⟩); omega
  · rcases (show (0 < c3 ∧ 0 < c1) ∨ (c3 < 0 ∧ c1 < 0) by omega) with ⟨k2, k3⟩ | ⟨k2, k3⟩
    · have := third eP k2 k3 (.inl ⟨by omega, by omega, by omega⟩); omega
    · have := third_neg eP k2 k3 (.inl ⟨by omega, by omega, by omega⟩); omega
  · rcases (show (0 < c3 ∧ 0 < c1) ∨ (c3 < 0 ∧ c1 < 0) by omega) with ⟨k2, k3⟩ | ⟨k2, k3⟩
    · have := third eP k2 k3 (.inr ⟨by omega, by omega, by omega⟩); omega
    · have := third_neg eP k2 k3 (.inr ⟨by omega, by omega, by omega⟩); omega
  · rcases (show (0 < c1 ∧ 0 < c2) ∨ (c1 < 0 ∧ c2 < 0) by omega) with ⟨k2, k3⟩ | ⟨k2, k3⟩
    · have := third eQ k2 k3 (.inl ⟨by omega, by omega, by omega⟩); omega
    · have := third_neg eQ k2 k3 (.inl ⟨by omega, by omega, by omega⟩); omega
  · rcases (show (0 < c2 ∧ 0 < c3) ∨ (c2 < 0 ∧ c3 < 0) by omega) with ⟨k2, k3⟩ | ⟨k2, k3⟩
    · have := third eS k2 k3 (.inl ⟨by omega, by omega, by omega⟩); omega
    · have := third_neg eS k2 k3 (.inl ⟨by omega, by omega, by omega⟩); omega
  · omega

/-- Weights above nought whose sum of heights is nought: not all corners are over the row, nor all under it. -/
theorem mixed {u v w P Q S : Int} (h : u * P + v * Q + w * S = 0) (hu : 0 < u) (hv : 0 < v) (hw : 0 < w) : (¬ (0 < P ∧ 0 < Q ∧ 0 < S)) ∧ ((P ≤ 0 ∧ Q ≤ 0 ∧ S ≤ 0) → P = 0 ∧ Q = 0 ∧ S = 0) := by
  constructor
  · rintro ⟨h1, h2, h3⟩
    have := Int.mul_pos hu h1
    have := Int.mul_pos hv h2
    have := Int.mul_pos hw h3
    omega
  · rintro ⟨h1, h2, h3⟩
    have k1 := Int.mul_nonneg (show 0 ≤ u by omega) (show 0 ≤ -P by omega)
    have k2 := Int.mul_nonneg (show 0 ≤ v by omega) (show 0 ≤ -Q by omega)
    have k3 := Int.mul_nonneg (show 0 ≤ w by omega) (show 0 ≤ -S by omega)
    rw [Int.mul_neg] at k1 k2 k3
    refine ⟨?_, ?_, ?_⟩
    · have z : u * P = 0 := by omega
      rcases Int.mul_eq_zero.1 z with z | z <;> omega
    · have z : v * Q = 0 := by omega
      rcases Int.mul_eq_zero.1 z with z | z <;> omega
    · have z : w * S = 0 := by omega
      rcases Int.mul_eq_zero.1 z with z | z <;> omega

theorem tri_flat {p q s : Int × Int} {y : Int} (h1 : p.2 = y) (h2 : q.2 = y) (h3 : s.2 = y) : area [p, q, s] = 0 := by
  unfold area
  rw [cyc3]
  unfold ar2
  rw [h1, h2, h3]
  grind

/-- What lies in a triangle that goes the left way about. -/
theorem tri_pos {p q s : Int × Int} {x y : Int} (ha : 0 < area [p, q, s]) : (0 < onN [p, q, s] x y ∨ crN [p, q, s] x y % 2 = 1) ↔ 0 ≤ crs p q x y ∧ 0 ≤ crs q s x y ∧ 0 ≤ crs s p x y := by
  constructor
  · intro h
    by_cases ho : 0 < onN [p, q, s] x y
    · rcases onN3.1 ho with k | k | k
      · have := tri_on (s := s) k ha
        have := (onB_iff.1 k).1
        omega
      · have := tri_on (s := p) k (by rw [area_rot]; exact ha)
        have := (onB_iff.1 k).1
        omega
      · have := tri_on (s := q) k (by rw [area_rot, area_rot]; exact ha)
        have := (onB_iff.1 k).1
        omega
    · rcases tri_odd ho (h.resolve_left ho) with k | k
      · exact ⟨k.1, k.2.1, k.2.2.1⟩
      · omega
  · rintro ⟨k1, k2, k3⟩
    by_cases z1 : crs p q x y = 0
    · exact .inl (onN3.2 (.inl (tri_edge z1 k2 k3 ha)))
    by_cases z2 : crs q s x y = 0
    · exact .inl (onN3.2 (.inr (.inl (tri_edge z2 k3 k1 (by rw [area_rot]; exact ha)))))
    by_cases z3 : crs s p x y = 0
    · exact .inl (onN3.2 (.inr (.inr (tri_edge z3 k1 k2 (by rw [area_rot, area_rot]; exact ha)))))
    right
    have mx := mixed (tri_y p q s x y) (by omega) (by omega) (by omega)
    have fl : ¬ (p.2 = y ∧ q.2 = y ∧ s.2 = y) := fun h => by
      have := tri_flat h.1 h.2.1 h.2.2
      omega
    unfold crN
    rw [cyc3]
    have h1 := bi_cases _ _ (crB_iff (p := p) (q := q) (x := x) (y := y))
    have h2 := bi_cases _ _ (crB_iff (p := q) (q := s) (x := x) (y := y))
    have h3 := bi_cases _ _ (crB_iff (p := s) (q := p) (x := x) (y := y))
    generalize bi (crB p q x y) = b1 at *
    generalize bi (crB q s x y) = b2 at *
    generalize bi (crB s p x y) = b3 at *
    generalize crs p q x y = c1 at *
    generalize crs q s x y = c2 at *
    generalize crs s p x y = c3 at *
    omega

theorem rev3 (p q s : Int × Int) : ([s, q, p] : List (Int × Int)).length = [p, q, s].length ∧ ∀ i, i < [p, q, s].length → pt [s, q, p] i = pt [p, q, s] ([p, q, s].length - 1 - i) := by
  refine ⟨rfl, fun i hi => ?_⟩
  have : i = 0 ∨ i = 1 ∨ i = 2 := by simp at hi; omega
  rcases this with rfl | rfl | rfl <;> rfl

theorem tri_neg {p q s : Int × Int} {x y : Int} (ha : area [p, q, s] < 0) : (0 < onN [p, q, s] x y ∨ crN [p, q, s] x y % 2 = 1) ↔ crs p q x y ≤ 0 ∧ crs q s x y ≤ 0 ∧ crs s p x y ≤ 0 := by
  have r := rev3 p q s
  have a := area_back r.1 r.2
  have h := tri_pos (p := s) (q := q) (s := p) (x := x) (y := y) (by omega)
  rw [onN_back x y r.1 r.2, crN_back x y r.1 r.2, crs_swap q s, crs_swap p q, crs_swap s p] at h
  rw [h]
  omega

/-- What lies in a triangle: what is on one side of all its edges, or on one. -/
theorem tri_in {p q s : Int × Int} {x y : Int} (ha : area [p, q, s] ≠ 0) : (0 < onN [p, q, s] x y ∨ crN [p, q, s] x y % 2 = 1) ↔ (0 ≤ crs p q x y ∧ 0 ≤ crs q s x y ∧ 0 ≤ crs s p x y) ∨ (crs p q x y ≤ 0 ∧ crs q s x y ≤ 0 ∧ crs s p x y ≤ 0) := by
  have e := tri_sum p q s x y
  by_cases c : 0 < area [p, q, s]
  · rw [tri_pos c]; omega
  · rw [tri_neg (by omega)]; omega

theorem tri_none {p q s : Int × Int} {x y : Int} (ha : area [p, q, s] = 0) : (0 < onN [p, q, s] x y ∨ crN [p, q, s] x y % 2 = 1) ↔ 0 < onN [p, q, s] x y := by
  constructor
  · intro h
    by_cases ho : 0 < onN [p, q, s] x y
    · exact ho
    · rcases tri_odd ho (h.resolve_left ho) with k | k <;> omega
  · exact .inl

end Go.Proofs.Ytmfpkphhjfgjbab
