/-
  Plain facts on a sweep over a box: from each cell that touches it one goes back along an axis, through such cells, to one that touches the side where the box begins. No condition beyond those written.
-/
import Derived.Test.YtdklpgphmoaniaaGreatDoorCovSize
import Derived.Test.YtdklpgphmoaniaaGreatDoorProg
import Derived.Handy
import Derived.Deep.QuietTactic
import Derived.WalkSpells
import Derived.WalkLawsBesides
import Derived.BigQuiet
import Derived.PlainAid
import Derived.Deep.RegionWith
import Derived.Laws.BitsAllLaws
namespace Go.Proofs.YtdklpgphmoaniaaGreatDoor

theorem lin_move (p q : Int × Int) (X Y M s t dx dy : Int) : lin p q (s * X - t * dx) (s * Y - t * dy) (s * M) = s * lin p q X Y M - t * ((q.1 - p.1) * dy - (q.2 - p.2) * dx) := by unfold lin; grind

/-- How fast a side is come to on the way back along (dx, dy). -/
def crD (h : Nat → Int × Int) (dx dy : Int) (i : Nat) : Int := ((h (nx i)).1 - (h i).1) * dy - ((h (nx i)).2 - (h i).2) * dx

/-- Going back so far from a point within: one is still within, or left over one side ahead of that. -/
theorem leaves_dir {h : Nat → Int × Int} {X Y M dx dy T : Int} (hp : InK h X Y M) (hT : 0 ≤ T) :
    InK h (X - T * dx) (Y - T * dy) M ∨ ∃ (e : Nat) (s t : Int), e < 6 ∧ 0 < s ∧ 0 ≤ t ∧ t ≤ T * s ∧ 0 < crD h dx dy e ∧ InK h (s * X - t * dx) (s * Y - t * dy) (s * M) ∧ lin (h e) (h (nx e)) (s * X - t * dx) (s * Y - t * dy) (s * M) = 0 := by
  have e1 : ∀ i, lin (h i) (h (nx i)) (X - T * dx) (Y - T * dy) M = lin (h i) (h (nx i)) X Y M - T * crD h dx dy i := fun i => by
    have := lin_move (h i) (h (nx i)) X Y M 1 T dx dy
    rw [Int.one_mul, Int.one_mul, Int.one_mul, Int.one_mul] at this
    exact this
  by_cases hv : ∃ i, i < 6 ∧ lin (h i) (h (nx i)) X Y M < T * crD h dx dy i
  · refine .inr ?_
    have pos : ∀ i, i < 6 → lin (h i) (h (nx i)) X Y M < T * crD h dx dy i → 0 < crD h dx dy i := fun i hi k => by
      by_cases c : 0 < crD h dx dy i
      · exact c
      · have := hp i hi
        have := Int.mul_nonneg hT (show 0 ≤ -crD h dx dy i by omega)
        rw [Int.mul_neg] at this
        omega
    obtain ⟨e, he, ve, hm⟩ := first_side (u := fun i => if i < 6 then lin (h i) (h (nx i)) X Y M else 0) (w := fun i => crD h dx dy i) (fun i => i < 6 ∧ lin (h i) (h (nx i)) X Y M < T * crD h dx dy i)
      (fun i => by
        split
        · exact hp i (by assumption)
        · exact Int.le_refl 0) (fun i hi => pos i hi.1 hi.2) 6 (by obtain ⟨i, hi, k⟩ := hv; exact ⟨i, hi, hi, k⟩)
    have he0 := hp e he
    have hs := pos e he ve.2
    have ht : lin (h e) (h (nx e)) X Y M ≤ T * crD h dx dy e := Int.le_of_lt ve.2
    refine ⟨e, crD h dx dy e, lin (h e) (h (nx e)) X Y M, he, hs, he0, ht, hs, fun f hf => ?_, ?_⟩
    · rw [lin_move]
      show 0 ≤ crD h dx dy e * lin (h f) (h (nx f)) X Y M - lin (h e) (h (nx e)) X Y M * crD h dx dy f
      have hf0 := hp f hf
      by_cases vf : lin (h f) (h (nx f)) X Y M < T * crD h dx dy f
      · have h1 := hm f hf ⟨hf, vf⟩
        rw [if_pos he, if_pos hf] at h1
        have e2 := Int.mul_comm (lin (h f) (h (nx f)) X Y M) (crD h dx dy e)
        omega
      · by_cases c : 0 < crD h dx dy f
        · have k1 := Int.mul_le_mul_of_nonneg_left (show T * crD h dx dy f ≤ lin (h f) (h (nx f)) X Y M by omega) (Int.le_of_lt hs)
          have k2 := Int.mul_le_mul_of_nonneg_right ht (Int.le_of_lt c)
          have e2 : crD h dx dy e * (T * crD h dx dy f) = T * crD h dx dy e * crD h dx dy f := by grind
          omega
        · have k1 := Int.mul_nonneg (Int.le_of_lt hs) hf0
          have k2 := Int.mul_nonneg he0 (show 0 ≤ -crD h dx dy f by omega)
          rw [Int.mul_neg] at k2
          omega
    · rw [lin_move]
      show crD h dx dy e * lin (h e) (h (nx e)) X Y M - lin (h e) (h (nx e)) X Y M * crD h dx dy e = 0
      rw [Int.mul_comm]
      omega
  · refine .inl fun i hi => ?_
    rw [e1]
    by_cases c : lin (h i) (h (nx i)) X Y M < T * crD h dx dy i
    · exact absurd ⟨i, hi, c⟩ hv
    · omega

/-- A side's way is that of the step across it, turned by a quarter. -/
theorem side_way (K : Nat) (a b : Int) {e : Nat} (he : e < 6) :
    26 * ((hv K a b (nx e)).2 - (hv K a b e).2) = 45 * poX K (sA e) (sB e) ∧ 45 * ((hv K a b (nx e)).1 - (hv K a b e).1) = -(78 * poY K (sA e) (sB e)) := by
  obtain rfl | rfl | rfl | rfl | rfl | rfl : e = 0 ∨ e = 1 ∨ e = 2 ∨ e = 3 ∨ e = 4 ∨ e = 5 := by omega
  · rw [nx_six.1]
    unfold hv coX coY poX poY ctA ctB sA sB wayA wayB
    constructor <;> grind
  · rw [nx_six.2.1]
    unfold hv coX coY poX poY ctA ctB sA sB wayA wayB
    constructor <;> grind
  · rw [nx_six.2.2.1]
    unfold hv coX coY poX poY ctA ctB sA sB wayA wayB
    constructor <;> grind
  · rw [nx_six.2.2.2.1]
    unfold hv coX coY poX poY ctA ctB sA sB wayA wayB
    constructor <;> grind
  · rw [nx_six.2.2.2.2.1]
    unfold hv coX coY poX poY ctA ctB sA sB wayA wayB
    constructor <;> grind
  · rw [nx_six.2.2.2.2.2]
    unfold hv coX coY poX poY ctA ctB sA sB wayA wayB
    constructor <;> grind

/-- How far on along an axis a centre lies. -/
def plc (K d : Nat) (a b : Int) : Int := if d = 0 then poX K a b else poY K a b

theorem po_add (K : Nat) (a b p q : Int) : poX K (a + p) (b + q) = poX K a b + poX K p q ∧ poY K (a + p) (b + q) = poY K a b + poY K p q := by
  unfold poX poY ctA ctB
  constructor <;> grind

theorem plc_add (K d : Nat) (a b p q : Int) : plc K d (a + p) (b + q) = plc K d a b + plc K d p q := by
  unfold plc
  split
  · exact (po_add K a b p q).1
  · exact (po_add K a b p q).2

/-- Back along the axis: to the side where the box begins, or to a cell whose centre lies farther back. -/
theorem tou_left {K : Nat} {l1 l2 u1 u2 a b : Int} (h : Tou K l1 l2 u1 u2 a b) :
    Tou K l1 l2 l1 u2 a b ∨ ∃ e, e < 6 ∧ poX K (sA e) (sB e) < 0 ∧ Tou K l1 l2 u1 u2 (a + sA e) (b + sB e) := by
  obtain ⟨X, Y, M, hM, hp, hX, hY⟩ := h
  rcases leaves_dir (dx := 1) (dy := 0) (T := X - M * (3 * l1)) hp (by omega) with k | ⟨e, s, t, he, hs, ht, htT, hc, hq, hz⟩
  · refine .inl ⟨_, _, M, hM, k, ⟨by omega, by omega⟩, by omega, by omega⟩
  · refine .inr ⟨e, he, ?_, ?_⟩
    · have := (side_way K a b he).1
      unfold crD at hc
      omega
    · have hqa := across he hq hz
      rw [Int.mul_one, Int.mul_zero, Int.sub_zero] at hqa
      have k1 : s * (M * (3 * l1)) = s * M * (3 * l1) := (Int.mul_assoc ..).symm
      have k2 := Int.mul_le_mul_of_nonneg_left hX.2 (Int.le_of_lt hs)
      have k3 := Int.mul_le_mul_of_nonneg_left hY.1 (Int.le_of_lt hs)
      have k4 := Int.mul_le_mul_of_nonneg_left hY.2 (Int.le_of_lt hs)
      rw [← Int.mul_assoc] at k2 k3 k4
      have k5 : (X - M * (3 * l1)) * s = s * X - s * M * (3 * l1) := by grind
      exact ⟨s * X - t, s * Y, s * M, Int.mul_pos hs hM, hqa, ⟨by omega, by omega⟩, k3, k4⟩

theorem tou_low {K : Nat} {l1 l2 u1 u2 a b : Int} (h : Tou K l1 l2 u1 u2 a b) :
    Tou K l1 l2 u1 l2 a b ∨ ∃ e, e < 6 ∧ poY K (sA e) (sB e) < 0 ∧ Tou K l1 l2 u1 u2 (a + sA e) (b + sB e) := by
  obtain ⟨X, Y, M, hM, hp, hX, hY⟩ := h
  rcases leaves_dir (dx := 0) (dy := 1) (T := Y - M * (3 * l2)) hp (by omega) with k | ⟨e, s, t, he, hs, ht, htT, hc, hq, hz⟩
  · refine .inl ⟨_, _, M, hM, k, by omega, ⟨by omega, by omega⟩⟩
  · refine .inr ⟨e, he, ?_, ?_⟩
    · have := (side_way K a b he).2
      unfold crD at hc
      omega
    · have hqa := across he hq hz
      rw [Int.mul_one, Int.mul_zero, Int.sub_zero] at hqa
      have k2 := Int.mul_le_mul_of_nonneg_left hY.2 (Int.le_of_lt hs)
      have k3 := Int.mul_le_mul_of_nonneg_left hX.1 (Int.le_of_lt hs)
      have k4 := Int.mul_le_mul_of_nonneg_left hX.2 (Int.le_of_lt hs)
      rw [← Int.mul_assoc] at k2 k3 k4
      have k5 : (Y - M * (3 * l2)) * s = s * Y - s * M * (3 * l2) := by grind
      exact ⟨s * X, s * Y - t, s * M, Int.mul_pos hs hM, hqa, ⟨k3, k4⟩, by omega, by omega⟩

/-- The side where the box begins. -/
def sdX (d : Nat) (l u : Int) : Int := if d = 0 then l else u

theorem tou_back {K d : Nat} (hd : d ≤ 1) {l1 l2 u1 u2 a b : Int} (h : Tou K l1 l2 u1 u2 a b) :
    Tou K l1 l2 (sdX d l1 u1) (sdX (1 - d) l2 u2) a b ∨ ∃ e, e < 6 ∧ plc K d (sA e) (sB e) < 0 ∧ Tou K l1 l2 u1 u2 (a + sA e) (b + sB e) := by
  obtain rfl | rfl : d = 0 ∨ d = 1 := by omega
  · exact tou_left h
  · exact tou_low h

theorem plc_box {K d : Nat} (hK : K ≤ 12) {r a b : Int} (h : Ok4 r a b) : -1000000000000000000 ≤ plc K d a b ∧ plc K d a b ≤ 1000000000000000000 := by
  have h1 := ok4_part h
  have h2 := ct_box hK (a := a) (b := b) (by omega) (by omega)
  unfold plc poX poY
  split <;> omega

theorem u_of_s {e : Nat} (he : e < 6) : ∃ i, i < 6 ∧ uA i = -sA e ∧ uB i = -sB e := by
  obtain rfl | rfl | rfl | rfl | rfl | rfl : e = 0 ∨ e = 1 ∨ e = 2 ∨ e = 3 ∨ e = 4 ∨ e = 5 := by omega
  · exact ⟨4, by omega, rfl, rfl⟩
  · exact ⟨5, by omega, rfl, rfl⟩
  · exact ⟨0, by omega, rfl, rfl⟩
  · exact ⟨1, by omega, rfl, rfl⟩
  · exact ⟨2, by omega, rfl, rfl⟩
  · exact ⟨3, by omega, rfl, rfl⟩

/-- ALL CELLS THAT TOUCH A BOX ARE COME TO from those at the side where it begins, by steps on along the axis through cells that touch it. -/
theorem sweep_all {K d : Nat} (hK : K ≤ 12) (hd : d ≤ 1) {r l1 l2 u1 u2 : Int} (hr : 12 - r = (K : Int)) (h1 : 0 ≤ l1) (h2 : 0 ≤ l2) (h3 : u1 < 1073741824) (h4 : u2 < 1073741824) (P : Int → Int → Prop)
    (h0 : ∀ a b, Tou K l1 l2 (sdX d l1 u1) (sdX (1 - d) l2 u2) a b → Tou K l1 l2 u1 u2 a b → P a b)
    (hstep : ∀ a b i, i < 6 → 0 < plc K d (uA i) (uB i) → Tou K l1 l2 u1 u2 a b → P a b → Tou K l1 l2 u1 u2 (a + uA i) (b + uB i) → P (a + uA i) (b + uB i)) :
    ∀ a b, Tou K l1 l2 u1 u2 a b → P a b := by
  have key : ∀ (n : Nat) a b, (plc K d a b + 1000000000000000000).toNat < n → Tou K l1 l2 u1 u2 a b → P a b := by
    intro n
    induction n with
    | zero => intro a b h; omega
    | succ n ih =>
      intro a b hn hT
      rcases tou_back hd hT with k | ⟨e, he, hc, hT2⟩
      · exact h0 a b k hT
      · have hb := plc_box (d := d) hK (tou_ok hK hr h1 h2 h3 h4 hT2)
        have ea := plc_add K d a b (sA e) (sB e)
        have hp := ih _ _ (by omega) hT2
        obtain ⟨i, hi, e1, e2⟩ := u_of_s he
        have e3 : a + sA e + uA i = a := by omega
        have e4 : b + sB e + uB i = b := by omega
        have e5 := plc_add K d (a + sA e) (b + sB e) (uA i) (uB i)
        rw [e3, e4] at e5
        have := hstep (a + sA e) (b + sB e) i hi (by omega) hT2 hp (by rw [e3, e4]; exact hT)
        rwa [e3, e4] at this
  exact fun a b hT => key _ a b (Nat.lt_succ_self _) hT

/-- The cells of a point are that of the nearest centre and its neighbours. -/
theorem point_around {K : Nat} (hK : K ≤ 12) {x y p q a b : Int} (hn : Nearest (dvK K) (nuA K x y) (nuB K x y) p q) (h : Tou K x y x y a b) : (a = p ∧ b = q) ∨ ∃ i, i < 6 ∧ a = p + uA i ∧ b = q + uB i := by
  have hd := (dvK_box hK).1
  have h1 := hex_steps (by omega) hn.1 (tou_point h)
  by_cases e : a - p = 0 ∧ b - q = 0
  · exact .inl ⟨by omega, by omega⟩
  · have h2 := stp_ge (a - p) (b - q)
    have h3 : stp (a - p) (b - q) = 1 := by omega
    refine .inr ?_
    have h4 := stp_at (a - p) (b - q)
    rw [h3] at h2
    obtain k | k | k | k | k | k : (a = p + 1 ∧ b = q) ∨ (a = p ∧ b = q + 1) ∨ (a = p - 1 ∧ b = q + 1) ∨ (a = p - 1 ∧ b = q) ∨ (a = p ∧ b = q - 1) ∨ (a = p + 1 ∧ b = q - 1) := by omega
    · exact ⟨0, by omega, by rw [k.1]; rfl, by rw [k.2]; simp [uB]⟩
    · exact ⟨1, by omega, by rw [k.1]; simp [uA], by rw [k.2]; rfl⟩
    · exact ⟨2, by omega, by rw [k.1]; rfl, by rw [k.2]; rfl⟩
    · exact ⟨3, by omega, by rw [k.1]; rfl, by rw [k.2]; simp [uB]⟩
    · exact ⟨4, by omega, by rw [k.1]; simp [uA], by rw [k.2]; rfl⟩
    · exact ⟨5, by omega, by rw [k.1]; rfl, by rw [k.2]; rfl⟩

end Go.Proofs.YtdklpgphmoaniaaGreatDoor
