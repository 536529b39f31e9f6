/-
  Plain facts on how many cells touch a box at least: points of the box that lie far apart have cells of their own each. No condition beyond those written.
-/
import Derived.Test.YtdklpgphmoaniaaGreatDoorCovWord
import Derived.Test.YtdklpgphmoaniaaGreatDoorProg
import Derived.Handy
import Derived.Deep.QuietTactic
import Derived.WalkSpells
import Derived.WalkLawsBesides
import Derived.BigQuiet
import Derived.PlainAid
import Derived.Deep.RegionWith
import Derived.Laws.BitsAllLaws
namespace Go.Proofs.YtdklpgphmoaniaaGreatDoor

/-- Two numbers of one hexagon: how far apart they are at most. -/
theorem hex_two {d s t s' t' : Int} (h : Hex d s t) (h' : Hex d s' t') : 3 * ((s' - s) * (s' - s) + (s' - s) * (t' - t) + (t' - t) * (t' - t)) ≤ (2 * d) * (2 * d) := by
  unfold Hex at h h'
  obtain ⟨p, ep⟩ : ∃ p, 2 * (s' - s) + (t' - t) = p := ⟨_, rfl⟩
  obtain ⟨q, eq⟩ : ∃ q, (s' - s) + 2 * (t' - t) = q := ⟨_, rfl⟩
  have e : 3 * ((s' - s) * (s' - s) + (s' - s) * (t' - t) + (t' - t) * (t' - t)) = p * p - p * q + q * q := by rw [← ep, ← eq]; grind
  rw [e]
  have hp : -(2 * d) ≤ p ∧ p ≤ 2 * d := by omega
  have hq : -(2 * d) ≤ q ∧ q ≤ 2 * d := by omega
  have hpq : -(2 * d) ≤ p - q ∧ p - q ≤ 2 * d := by omega
  have sq : ∀ m : Int, -(2 * d) ≤ m ∧ m ≤ 2 * d → m * m ≤ (2 * d) * (2 * d) := fun m hm => by
    have h1 := Int.mul_nonneg (show 0 ≤ 2 * d - m by omega) (show 0 ≤ 2 * d + m by omega)
    have h2 : (2 * d - m) * (2 * d + m) = (2 * d) * (2 * d) - m * m := by grind
    omega
  have s1 := sq p hp
  have s2 := sq q hq
  have s3 := sq (p - q) hpq
  have e3 : (p - q) * (p - q) = p * p - 2 * (p * q) + q * q := by grind
  rcases Int.lt_or_le p 0 with a | a <;> rcases Int.lt_or_le q 0 with b | b
  · rcases Int.lt_or_le p q with c | c
    · have := Int.mul_nonneg (show 0 ≤ -q by omega) (show 0 ≤ q - p by omega)
      have e4 : -q * (q - p) = p * q - q * q := by grind
      omega
    · have := Int.mul_nonneg (show 0 ≤ -p by omega) (show 0 ≤ p - q by omega)
      have e4 : -p * (p - q) = p * q - p * p := by grind
      omega
  · have := Int.mul_nonneg (show 0 ≤ -p by omega) b
    have e4 : -p * q = -(p * q) := by grind
    omega
  · have := Int.mul_nonneg a (show 0 ≤ -q by omega)
    have e4 : p * -q = -(p * q) := by grind
    omega
  · rcases Int.lt_or_le p q with c | c
    · have := Int.mul_nonneg a (show 0 ≤ q - p by omega)
      have e4 : p * (q - p) = p * q - p * p := by grind
      omega
    · have := Int.mul_nonneg b (show 0 ≤ p - q by omega)
      have e4 : q * (p - q) = p * q - q * q := by grind
      omega

theorem nu_norm (K : Nat) (x y : Int) : nuA K x y * nuA K x y + nuA K x y * nuB K x y + nuB K x y * nuB K x y = (2025 * (x * x) + 2028 * (y * y)) * sev K := by
  have e : sev K = cjA K * cjA K + cjA K * cjB K + cjB K * cjB K := by unfold sev normE cjA cjB; grind
  rw [e]
  unfold nuA nuB
  grind

/-- Two points in one cell: how far apart they are at most. -/
theorem one_cell {K : Nat} (hK : K ≤ 12) {x y x' y' a b : Int} (h : HexAt (dvK K) (nuA K x y) (nuB K x y) a b) (h' : HexAt (dvK K) (nuA K x' y') (nuB K x' y') a b) :
    2025 * ((x' - x) * (x' - x)) + 2028 * ((y' - y) * (y' - y)) ≤ 7300800 * sev K := by
  unfold HexAt at h h'
  have k := hex_two h h'
  have e := nu_norm K (x' - x) (y' - y)
  have eA : nuA K x' y' - a * dvK K - (nuA K x y - a * dvK K) = nuA K (x' - x) (y' - y) := by unfold nuA; grind
  have eB : nuB K x' y' - b * dvK K - (nuB K x y - b * dvK K) = nuB K (x' - x) (y' - y) := by unfold nuB; grind
  rw [eA, eB, e] at k
  obtain ⟨N, eN⟩ : ∃ N, 2025 * ((x' - x) * (x' - x)) + 2028 * ((y' - y) * (y' - y)) = N := ⟨_, rfl⟩
  rw [eN] at k ⊢
  have hs : 1 ≤ sev K := by
    have := (dvK_box hK).1
    unfold dvK at this
    omega
  have e2 : (2 * dvK K) * (2 * dvK K) = 3 * ((7300800 * sev K) * sev K) := by unfold dvK; grind
  rw [e2] at k
  rcases Int.lt_or_le (7300800 * sev K) N with c | c
  · have := Int.mul_lt_mul_of_pos_right c (show 0 < sev K by omega)
    omega
  · exact c

/-- More than n cells touch the box. -/
def Many (K : Nat) (l1 l2 u1 u2 : Int) (r n : Nat) : Prop := ∃ L : List Int, L.Nodup ∧ (∀ x ∈ L, TW K l1 l2 u1 u2 x r) ∧ n < L.length

theorem Many.all {K r n : Nat} {l1 l2 u1 u2 : Int} (h : Many K l1 l2 u1 u2 r n) {L : List Int} (hL : ∀ x, x ∈ L ↔ TW K l1 l2 u1 u2 x r) : n < L.length := by
  obtain ⟨M, h1, h2, h3⟩ := h
  exact Nat.lt_of_lt_of_le h3 (nodup_len h1 fun x hx => (hL x).2 (h2 x hx))

/-- The word of a point's cell. -/
theorem word_point {K r : Nat} (hK : K ≤ 12) (hr : 12 - (r : Int) = (K : Int)) {l1 l2 u1 u2 x y : Int} (h1 : 0 ≤ l1) (h2 : 0 ≤ l2) (h3 : u1 < 1073741824) (h4 : u2 < 1073741824) (hx : l1 ≤ x ∧ x ≤ u1) (hy : l2 ≤ y ∧ y ≤ u2) :
    ∃ z, TW K l1 l2 u1 u2 z r ∧ HexAt (dvK K) (nuA K x y) (nuB K x y) (cellA z) (cellB z) := by
  obtain ⟨a, b, hn⟩ := nearest_some (d := dvK K) (dvK_box hK).1 (nuA K x y) (nuB K x y)
  have ht := tou_at hx hy hn.1
  have hok := tou_ok hK hr h1 h2 h3 h4 ht
  have hw := tw_mk hok ht
  refine ⟨_, hw, ?_⟩
  have := cell_word hok
  rw [this.1, this.2]
  exact hn.1

theorem many_points {K r : Nat} (hK : K ≤ 12) (hr : 12 - (r : Int) = (K : Int)) {l1 l2 u1 u2 : Int} (h1 : 0 ≤ l1) (h2 : 0 ≤ l2) (h3 : u1 < 1073741824) (h4 : u2 < 1073741824) (f g : Nat → Int)
    (n : Nat) (hf : ∀ i, i ≤ n → l1 ≤ f i ∧ f i ≤ u1) (hg : ∀ i, i ≤ n → l2 ≤ g i ∧ g i ≤ u2) (ha : ∀ i j, i < j → j ≤ n → 7300800 * sev K < 2025 * ((f j - f i) * (f j - f i)) + 2028 * ((g j - g i) * (g j - g i))) :
    Many K l1 l2 u1 u2 r n := by
  have hz : ∀ i, i ≤ n → ∃ z, TW K l1 l2 u1 u2 z r ∧ HexAt (dvK K) (nuA K (f i) (g i)) (nuB K (f i) (g i)) (cellA z) (cellB z) := fun i hi => word_point hK hr h1 h2 h3 h4 (hf i hi) (hg i hi)
  have step : ∀ m, m ≤ n + 1 → ∃ L : List Int, L.Nodup ∧ (∀ x ∈ L, TW K l1 l2 u1 u2 x r ∧ ∃ i, i < m ∧ HexAt (dvK K) (nuA K (f i) (g i)) (nuB K (f i) (g i)) (cellA x) (cellB x)) ∧ L.length = m := by
    intro m
    induction m with
    | zero => exact fun _ => ⟨[], List.nodup_nil, fun x hx => (by cases hx), rfl⟩
    | succ m ih =>
      intro hm
      obtain ⟨L, k1, k2, k3⟩ := ih (by omega)
      obtain ⟨z, z1, z2⟩ := hz m (by omega)
      refine ⟨z :: L, List.nodup_cons.2 ⟨fun hzL => ?_, k1⟩, fun x hx => ?_, by rw [List.length_cons, k3]⟩
      · obtain ⟨-, i, hi, hx⟩ := k2 z hzL
        have := one_cell hK hx z2
        have := ha i m hi (by omega)
        omega
      · rcases List.mem_cons.1 hx with e | e
        · subst e; exact ⟨z1, m, by omega, z2⟩
        · obtain ⟨q1, i, hi, q2⟩ := k2 x e
          exact ⟨q1, i, by omega, q2⟩
  obtain ⟨L, k1, k2, k3⟩ := step (n + 1) (Nat.le_refl _)
  exact ⟨L, k1, fun x hx => (k2 x hx).1, by omega⟩

theorem far_sq {a m : Int} (hm : 0 ≤ m) (h : a ≤ -m ∨ m ≤ a) : m * m ≤ a * a := by
  rcases h with h | h
  · have := Int.mul_le_mul (show m ≤ -a by omega) (show m ≤ -a by omega) hm (by omega)
    have e : -a * -a = a * a := by grind
    omega
  · exact Int.mul_le_mul h h hm (by omega)

theorem sq_pos (a : Int) : 0 ≤ a * a := by
  rcases Int.lt_or_le a 0 with h | h
  · have := Int.mul_nonneg (show 0 ≤ -a by omega) (show 0 ≤ -a by omega)
    have e : -a * -a = a * a := by grind
    omega
  · exact Int.mul_nonneg h h

/-- A wide box of the four finest sizes. -/
theorem many_fine {K r : Nat} (hK : K ≤ 3) (hr : 12 - (r : Int) = (K : Int)) {x y : Int} (hx : 0 ≤ x ∧ x < 536870912) (hy : 0 ≤ y ∧ y < 536870912) : Many K x y (x + 268435456) (y + 268435456) r 20000 :=
  many_points (by omega) hr hx.1 hy.1 (by omega) (by omega) (fun i => x + 13000 * (i : Int)) (fun _ => y) 20000 (fun i hi => by omega) (fun i hi => by omega) fun i j hij hj => by
    have h1 := far_sq (a := x + 13000 * (j : Int) - (x + 13000 * (i : Int))) (m := 13000) (by omega) (by omega)
    rw [sev_pow (by omega)]
    have h2 : (7 : Int) ^ K ≤ 343 := by
      rcases (show K = 0 ∨ K = 1 ∨ K = 2 ∨ K = 3 by omega) with e | e | e | e <;> subst e <;> decide
    have h3 := sq_pos (y - y)
    omega

/-- The whole world, of the coarsest size. -/
theorem many_world : Many 12 0 0 1073741823 1073741823 0 20000 :=
  many_points (by omega) (by omega) (by omega) (by omega) (by omega) (by omega) (fun i => 7600000 * ((i % 142 : Nat) : Int)) (fun i => 7600000 * ((i / 142 : Nat) : Int)) 20000 (fun i hi => by omega) (fun i hi => by omega) fun i j hij hj => by
    rw [sev_pow (by omega)]
    have e : (7 : Int) ^ 12 = 13841287201 := by decide
    rw [e]
    by_cases c : j % 142 = i % 142
    · have h1 := far_sq (a := 7600000 * ((j / 142 : Nat) : Int) - 7600000 * ((i / 142 : Nat) : Int)) (m := 7600000) (by omega) (by omega)
      have h3 := sq_pos (7600000 * ((j % 142 : Nat) : Int) - 7600000 * ((i % 142 : Nat) : Int))
      omega
    · have h1 := far_sq (a := 7600000 * ((j % 142 : Nat) : Int) - 7600000 * ((i % 142 : Nat) : Int)) (m := 7600000) (by omega) (by omega)
      have h3 := sq_pos (7600000 * ((j / 142 : Nat) : Int) - 7600000 * ((i / 142 : Nat) : Int))
      omega

end Go.Proofs.YtdklpgphmoaniaaGreatDoor
